/-
  Contracts of package gap and of the reference's Gap, Slot, LineOf, Move.
-/
import Derived.Test.YtjchmkgkibiadaaGpl
import Derived.Test.YtjchmkgkibiadaaBlk
namespace Go.Proofs.Ytjchmkgkibiadaa
open Go.RowKit


theorem may_yes (n m : Nat) (w : World) (h : 1 ≤ n) (h2 : n ≤ 100000) : Calls Try.prog 45 #[.int .i64 n, .int .i64 m] w fun e w' => e = .returned (.bool true) ∧ w = w' := by
  have c1 : (1 : Int) ≤ (n : Int) := by omega
  have c2 : (n : Int) ≤ 100000 := by omega
  have c3 : (0 : Int) ≤ (m : Int) := by omega
  go_enter Try.func45, Try.ntmps45
  go_wp2_with fail
  go_ret
  exact ⟨rfl, rfl⟩
theorem may_no (n m : Int) (w : World) (h : n < 1 ∨ 100000 < n ∨ m < 0) : Calls Try.prog 45 #[.int .i64 n, .int .i64 m] w fun e w' => e = .returned (.bool false) ∧ w = w' := by
  by_cases c1 : n < 1
  · have d1 : ¬ 1 ≤ n := by omega
    clear h
    go_enter Try.func45, Try.ntmps45
    go_wp2_with fail
    go_ret
    exact ⟨rfl, rfl⟩
  · have d1 : 1 ≤ n := by omega
    by_cases c2 : 100000 < n
    · have d2 : ¬ n ≤ 100000 := by omega
      clear h
      go_enter Try.func45, Try.ntmps45
      go_wp2_with fail
      go_ret
      exact ⟨rfl, rfl⟩
    · have d2 : n ≤ 100000 := by omega
      have d3 : ¬ 0 ≤ m := by omega
      clear h
      go_enter Try.func45, Try.ntmps45
      go_wp2_with fail
      go_ret
      exact ⟨rfl, rfl⟩

theorem gp_yes (n m : Nat) (w : World) (h : 1 ≤ n) (h2 : n ≤ 100000) : Calls Try.prog 47 #[.int .i64 n, .int .i64 m] w fun e w' => e = .returned (.int .i64 (gN n m)) ∧ w = w' := by
  obtain ⟨N, hN⟩ : ∃ N, N = n + 1 := ⟨_, rfl⟩
  obtain ⟨r, hr⟩ : ∃ r, r = m % N := ⟨_, rfl⟩
  obtain ⟨g, hg⟩ : ∃ g, g = gN n m := ⟨_, rfl⟩
  have hg2 : g = n - r := by rw [hg, hr, hN]; rfl
  have hrN : r < N := by rw [hr]; exact Nat.mod_lt _ (by omega)
  have k1 : IntKind.i64.wrap ((n : Int) + 1) = (N : Int) := by rw [show (n : Int) + 1 = (N : Int) by omega]; exact i64_nat _ (by omega)
  have k2 : (m : Int).tmod (N : Int) = (r : Int) := by rw [hr]; exact tmod_nat m N
  have k3 : IntKind.i64.wrap (r : Int) = (r : Int) := i64_nat _ (by omega)
  have k4 : IntKind.i64.wrap ((n : Int) - (r : Int)) = (g : Int) := by rw [show (n : Int) - (r : Int) = (g : Int) by omega]; exact i64_nat _ (by omega)
  have k5 : ¬ N = 0 := by omega
  have k6 : ¬ (N : Int) = 0 := by omega
  rw [← hg]
  clear hg hg2 hr hrN hN
  go_enter Try.func47, Try.ntmps47
  go_wp2_with fail
  go_ret
  exact ⟨rfl, rfl⟩

theorem shift_yes (n m : Nat) (w : World) (h : 1 ≤ n) (h2 : n ≤ 100000) (hm : m < 9223372036854775808) : Calls Try.prog 46 #[.int .i64 n, .int .i64 m] w fun e w' => e = .returned (.int .i64 (sN n m)) ∧ w = w' := by
  obtain ⟨N, hN⟩ : ∃ N, N = n + 1 := ⟨_, rfl⟩
  obtain ⟨q, hq⟩ : ∃ q, q = m / N := ⟨_, rfl⟩
  obtain ⟨s, hs⟩ : ∃ s, s = sN n m := ⟨_, rfl⟩
  have hs2 : s = q % n := by rw [hs, hq, hN]; rfl
  have hqm : q ≤ m := by rw [hq]; exact Nat.div_le_self _ _
  have hsn : s < n := by rw [hs]; exact sN_lt (by omega) m
  have k1 : IntKind.i64.wrap ((n : Int) + 1) = (N : Int) := by rw [show (n : Int) + 1 = (N : Int) by omega]; exact i64_nat _ (by omega)
  have k2 : (m : Int).tdiv (N : Int) = (q : Int) := by rw [hq]; exact tdiv_nat m N
  have k3 : IntKind.i64.wrap (q : Int) = (q : Int) := i64_nat _ (by omega)
  have k4 : (q : Int).tmod (n : Int) = (s : Int) := by rw [hs2]; exact tmod_nat q n
  have k5 : IntKind.i64.wrap (s : Int) = (s : Int) := i64_nat _ (by omega)
  have k6 : ¬ N = 0 := by omega
  have k7 : ¬ (N : Int) = 0 := by omega
  have k8 : ¬ n = 0 := by omega
  have k9 : ¬ (n : Int) = 0 := by omega
  rw [← hs]
  clear hs hs2 hq hqm hN
  go_enter Try.func46, Try.ntmps46
  go_wp2_with fail
  go_ret
  exact ⟨rfl, rfl⟩


theorem move_yes (n m : Nat) (w : World) (h : 1 ≤ n) (h2 : n ≤ 100000) : Calls Try.prog 40 #[.int .i64 n, .int .i64 m] w fun e w' => e = .returned (.tuple #[.int .i64 (frN n m), .int .i64 (gN n m)]) ∧ w = w' := by
  have C1 := Lib.hid fun w => may_yes n m w h h2
  have C2 := Lib.hid fun w => gp_yes n m w h h2
  have hgn := gN_le n m
  by_cases h0 : gN n m = 0
  · have e : frN n m = n := if_pos h0
    rw [h0] at C2
    rw [e, h0]
    clear e hgn
    go_enter Try.func40, Try.ntmps40
    go_wp2_with fail
    refine (C1.out _).mono ?_; rintro e w' ⟨rfl, rfl⟩
    go_wp2_with fail
    refine (C2.out _).mono ?_; rintro e w' ⟨rfl, rfl⟩
    go_wp2_with fail
    go_ret2
    exact ⟨rfl, rfl⟩
  · obtain ⟨f, hf⟩ : ∃ f, frN n m = f := ⟨_, rfl⟩
    have e : f = gN n m - 1 := by rw [← hf]; exact if_neg h0
    rw [hf]
    generalize gN n m = g at *
    have k1 : IntKind.i64.wrap ((g : Int) - 1) = (f : Int) := by rw [show (g : Int) - 1 = (f : Int) by omega]; exact i64_nat _ (by omega)
    clear e hf hgn
    go_enter Try.func40, Try.ntmps40
    go_wp2_with fail
    refine (C1.out _).mono ?_; rintro e w' ⟨rfl, rfl⟩
    go_wp2_with fail
    refine (C2.out _).mono ?_; rintro e w' ⟨rfl, rfl⟩
    go_wp2_with fail
    go_ret2
    exact ⟨rfl, rfl⟩
theorem move_no (n m : Int) (w : World) (h : n < 1 ∨ 100000 < n ∨ m < 0) : Calls Try.prog 40 #[.int .i64 n, .int .i64 m] w fun e w' => e = .returned (.tuple #[.int .i64 (-1), .int .i64 (-1)]) ∧ w = w' := by
  have C1 := Lib.hid fun w => may_no n m w h
  clear h
  go_enter Try.func40, Try.ntmps40
  go_wp2_with fail
  refine (C1.out _).mono ?_; rintro e w' ⟨rfl, rfl⟩
  go_wp2_with fail
  go_ret2
  exact ⟨rfl, rfl⟩

theorem slot_yes (n m l : Nat) (w : World) (h2 : n ≤ 100000) (hm : m < 9223372036854775808) (hl : l < n) : Calls Try.prog 29 #[.int .i64 n, .int .i64 m, .int .i64 l] w fun e w' => e = .returned (.int .i64 (slN n m l)) ∧ w = w' := by
  have C1 := Lib.hid fun w => may_yes n m w (by omega) h2
  have C2 := Lib.hid fun w => shift_yes n m w (by omega) h2 hm
  have C3 := Lib.hid fun w => gp_yes n m w (by omega) h2
  have hs := sN_lt (n := n) (by omega) m
  obtain ⟨p, hp⟩ : ∃ p, p = (l + sN n m) % n := ⟨_, rfl⟩
  have hpn : p < n := by rw [hp]; exact Nat.mod_lt _ (by omega)
  have e : slN n m l = if p < gN n m then p else p + 1 := by rw [hp]; rfl
  obtain ⟨t, ht⟩ : ∃ t, t = l + sN n m := ⟨_, rfl⟩
  rw [← ht] at hp
  generalize sN n m = s at *
  generalize gN n m = g at *
  obtain ⟨r, hr⟩ : ∃ r, slN n m l = r := ⟨_, rfl⟩
  rw [hr] at e
  rw [hr]
  clear hr
  have k0 : ¬ (l : Int) < 0 := by omega
  have k1 : ¬ (n : Int) ≤ (l : Int) := by omega
  have k2 : IntKind.i64.wrap ((l : Int) + (s : Int)) = (t : Int) := by rw [show (l : Int) + (s : Int) = (t : Int) by omega]; exact i64_nat _ (by omega)
  have k3 : (t : Int).tmod (n : Int) = (p : Int) := by rw [hp]; exact tmod_nat t n
  have k4 : IntKind.i64.wrap (p : Int) = (p : Int) := i64_nat _ (by omega)
  have k5 : ¬ n = 0 := by omega
  have k6 : ¬ (n : Int) = 0 := by omega
  by_cases c : p < g
  · rw [if_pos c] at e
    have k7 : (p : Int) < (g : Int) := by omega
    subst e
    clear hp ht hs
    go_enter Try.func29, Try.ntmps29
    go_wp2_with fail
    refine (C1.out _).mono ?_; rintro e w' ⟨rfl, rfl⟩
    go_wp2_with fail
    refine (C2.out _).mono ?_; rintro e w' ⟨rfl, rfl⟩
    go_wp2_with fail
    refine (C3.out _).mono ?_; rintro e w' ⟨rfl, rfl⟩
    go_wp2_with fail
    go_ret
    exact ⟨rfl, rfl⟩
  · rw [if_neg c] at e
    have k7 : ¬ (p : Int) < (g : Int) := by omega
    have k8 : IntKind.i64.wrap ((p : Int) + 1) = (r : Int) := by rw [show (p : Int) + 1 = (r : Int) by omega]; exact i64_nat _ (by omega)
    clear hp ht hs e
    go_enter Try.func29, Try.ntmps29
    go_wp2_with fail
    refine (C1.out _).mono ?_; rintro e w' ⟨rfl, rfl⟩
    go_wp2_with fail
    refine (C2.out _).mono ?_; rintro e w' ⟨rfl, rfl⟩
    go_wp2_with fail
    refine (C3.out _).mono ?_; rintro e w' ⟨rfl, rfl⟩
    go_wp2_with fail
    go_ret
    exact ⟨rfl, rfl⟩


/-- lines or slots that there aren't -/
theorem slot_no (n m l : Int) (w : World) (h : n < 1 ∨ 100000 < n ∨ m < 0) : Calls Try.prog 29 #[.int .i64 n, .int .i64 m, .int .i64 l] w fun e w' => e = .returned (.int .i64 (-1)) ∧ w = w' := by
  have C1 := Lib.hid fun w => may_no n m w h
  clear h
  go_enter Try.func29, Try.ntmps29
  go_wp2_with fail
  refine (C1.out _).mono ?_; rintro e w' ⟨rfl, rfl⟩
  go_wp2_with fail
  go_ret
  exact ⟨rfl, rfl⟩
theorem slot_out (n m : Nat) (l : Int) (w : World) (h : 1 ≤ n) (h2 : n ≤ 100000) (hl : l < 0 ∨ (n : Int) ≤ l) : Calls Try.prog 29 #[.int .i64 n, .int .i64 m, .int .i64 l] w fun e w' => e = .returned (.int .i64 (-1)) ∧ w = w' := by
  have C1 := Lib.hid fun w => may_yes n m w h h2
  by_cases c : l < 0
  · clear hl h h2
    go_enter Try.func29, Try.ntmps29
    go_wp2_with fail
    refine (C1.out _).mono ?_; rintro e w' ⟨rfl, rfl⟩
    go_wp2_with fail
    go_ret
    exact ⟨rfl, rfl⟩
  · have d : (n : Int) ≤ l := by omega
    clear hl h h2
    go_enter Try.func29, Try.ntmps29
    go_wp2_with fail
    refine (C1.out _).mono ?_; rintro e w' ⟨rfl, rfl⟩
    go_wp2_with fail
    go_ret
    exact ⟨rfl, rfl⟩




end Go.Proofs.Ytjchmkgkibiadaa
