/-
  Contracts of package gap and of the reference's Gap, Slot, LineOf, Move.
-/
import Derived.Test.YtmodoploohnbcaaGpl
import Derived.Test.YtmodoploohnbcaaBlk
namespace Go.Proofs.Ytmodoploohnbcaa
open Go.RowKit

theorem tdiv_nat (a b : Nat) : (a : Int).tdiv (b : Int) = ((a / b : Nat) : Int) := rfl
theorem i64_of {a : Int} (h1 : -9223372036854775808 ≤ a) (h2 : a ≤ 9223372036854775807) : (Lit.int .i64 a).wf = true := by simp [Lit.wf, IntKind.min, IntKind.max, IntKind.signed, IntKind.bits, h1, h2]
theorem i64_wf {a : Int} (h : (Lit.int .i64 a).wf = true) : -9223372036854775808 ≤ a ∧ a ≤ 9223372036854775807 := by simpa [Lit.wf, IntKind.min, IntKind.max, IntKind.signed, IntKind.bits] using h
theorem i64_nat (n : Nat) (h : n < 9223372036854775808) : IntKind.i64.wrap (n : Int) = n := IntWalk.i64_in _ (by omega)

theorem may_yes (n m : Nat) (w : World) (h : 1 ≤ n) (h2 : n ≤ 100000) : Calls Try.prog 17 #[.int .i64 n, .int .i64 m] w fun e w' => e = .returned (.bool true) ∧ w = w' := by
  have c1 : (1 : Int) ≤ (n : Int) := by omega
  have c2 : (n : Int) ≤ 100000 := by omega
  have c3 : (0 : Int) ≤ (m : Int) := by omega
  go_enter Try.func17, Try.ntmps17
  go_wp2_with fail
  go_ret
  exact ⟨rfl, rfl⟩
theorem may_no (n m : Int) (w : World) (h : n < 1 ∨ 100000 < n ∨ m < 0) : Calls Try.prog 17 #[.int .i64 n, .int .i64 m] w fun e w' => e = .returned (.bool false) ∧ w = w' := by
  by_cases c1 : n < 1
  · have d1 : ¬ 1 ≤ n := by omega
    clear h
    go_enter Try.func17, Try.ntmps17
    go_wp2_with fail
    go_ret
    exact ⟨rfl, rfl⟩
  · have d1 : 1 ≤ n := by omega
    by_cases c2 : 100000 < n
    · have d2 : ¬ n ≤ 100000 := by omega
      clear h
      go_enter Try.func17, Try.ntmps17
      go_wp2_with fail
      go_ret
      exact ⟨rfl, rfl⟩
    · have d2 : n ≤ 100000 := by omega
      have d3 : ¬ 0 ≤ m := by omega
      clear h
      go_enter Try.func17, Try.ntmps17
      go_wp2_with fail
      go_ret
      exact ⟨rfl, rfl⟩
theorem rmay_yes (n m : Nat) (w : World) (h : 1 ≤ n) (h2 : n ≤ 100000) : Calls Try.prog 19 #[.int .i64 n, .int .i64 m] w fun e w' => e = .returned (.bool true) ∧ w = w' := by
  have c1 : (1 : Int) ≤ (n : Int) := by omega
  have c2 : (n : Int) ≤ 100000 := by omega
  have c3 : (0 : Int) ≤ (m : Int) := by omega
  go_enter Try.func19, Try.ntmps19
  go_wp2_with fail
  go_ret
  exact ⟨rfl, rfl⟩
theorem rmay_no (n m : Int) (w : World) (h : n < 1 ∨ 100000 < n ∨ m < 0) : Calls Try.prog 19 #[.int .i64 n, .int .i64 m] w fun e w' => e = .returned (.bool false) ∧ w = w' := by
  by_cases c1 : n < 1
  · have d1 : ¬ 1 ≤ n := by omega
    clear h
    go_enter Try.func19, Try.ntmps19
    go_wp2_with fail
    go_ret
    exact ⟨rfl, rfl⟩
  · have d1 : 1 ≤ n := by omega
    by_cases c2 : 100000 < n
    · have d2 : ¬ n ≤ 100000 := by omega
      clear h
      go_enter Try.func19, Try.ntmps19
      go_wp2_with fail
      go_ret
      exact ⟨rfl, rfl⟩
    · have d2 : n ≤ 100000 := by omega
      have d3 : ¬ 0 ≤ m := by omega
      clear h
      go_enter Try.func19, Try.ntmps19
      go_wp2_with fail
      go_ret
      exact ⟨rfl, rfl⟩

theorem gp_yes (n m : Nat) (w : World) (h : 1 ≤ n) (h2 : n ≤ 100000) : Calls Try.prog 18 #[.int .i64 n, .int .i64 m] w fun e w' => e = .returned (.int .i64 (gN n m)) ∧ w = w' := by
  obtain ⟨N, hN⟩ : ∃ N, N = n + 1 := ⟨_, rfl⟩
  obtain ⟨r, hr⟩ : ∃ r, r = m % N := ⟨_, rfl⟩
  obtain ⟨g, hg⟩ : ∃ g, g = gN n m := ⟨_, rfl⟩
  have hg2 : g = n - r := by rw [hg, hr, hN]; rfl
  have hrN : r < N := by rw [hr]; exact Nat.mod_lt _ (by omega)
  have k1 : IntKind.i64.wrap ((n : Int) + 1) = (N : Int) := by rw [show (n : Int) + 1 = (N : Int) by omega]; exact i64_nat _ (by omega)
  have k2 : (m : Int).tmod (N : Int) = (r : Int) := by rw [hr]; exact tmod_nat m N
  have k3 : IntKind.i64.wrap (r : Int) = (r : Int) := i64_nat _ (by omega)
  have k4 : IntKind.i64.wrap ((n : Int) - (r : Int)) = (g : Int) := by rw [show (n : Int) - (r : Int) = (g : Int) by omega]; exact i64_nat _ (by omega)
  have k5 : ¬ N = 0 := by omega
  have k6 : ¬ (N : Int) = 0 := by omega
  rw [← hg]
  clear hg hg2 hr hrN hN
  go_enter Try.func18, Try.ntmps18
  go_wp2_with fail
  go_ret
  exact ⟨rfl, rfl⟩

theorem shift_yes (n m : Nat) (w : World) (h : 1 ≤ n) (h2 : n ≤ 100000) (hm : m < 9223372036854775808) : Calls Try.prog 20 #[.int .i64 n, .int .i64 m] w fun e w' => e = .returned (.int .i64 (sN n m)) ∧ w = w' := by
  obtain ⟨N, hN⟩ : ∃ N, N = n + 1 := ⟨_, rfl⟩
  obtain ⟨q, hq⟩ : ∃ q, q = m / N := ⟨_, rfl⟩
  obtain ⟨s, hs⟩ : ∃ s, s = sN n m := ⟨_, rfl⟩
  have hs2 : s = q % n := by rw [hs, hq, hN]; rfl
  have hqm : q ≤ m := by rw [hq]; exact Nat.div_le_self _ _
  have hsn : s < n := by rw [hs]; exact sN_lt (by omega) m
  have k1 : IntKind.i64.wrap ((n : Int) + 1) = (N : Int) := by rw [show (n : Int) + 1 = (N : Int) by omega]; exact i64_nat _ (by omega)
  have k2 : (m : Int).tdiv (N : Int) = (q : Int) := by rw [hq]; exact tdiv_nat m N
  have k3 : IntKind.i64.wrap (q : Int) = (q : Int) := i64_nat _ (by omega)
  have k4 : (q : Int).tmod (n : Int) = (s : Int) := by rw [hs2]; exact tmod_nat q n
  have k5 : IntKind.i64.wrap (s : Int) = (s : Int) := i64_nat _ (by omega)
  have k6 : ¬ N = 0 := by omega
  have k7 : ¬ (N : Int) = 0 := by omega
  have k8 : ¬ n = 0 := by omega
  have k9 : ¬ (n : Int) = 0 := by omega
  rw [← hs]
  clear hs hs2 hq hqm hN
  go_enter Try.func20, Try.ntmps20
  go_wp2_with fail
  go_ret
  exact ⟨rfl, rfl⟩

theorem gap_yes (n m : Nat) (w : World) (h : 1 ≤ n) (h2 : n ≤ 100000) : Calls Try.prog 10 #[.int .i64 n, .int .i64 m] w fun e w' => e = .returned (.int .i64 (gN n m)) ∧ w = w' := by
  have C1 := Lib.hid fun w => may_yes n m w h h2
  have C2 := Lib.hid fun w => gp_yes n m w h h2
  clear h h2
  go_enter Try.func10, Try.ntmps10
  go_wp2_with fail
  refine (C1.out _).mono ?_; rintro e w' ⟨rfl, rfl⟩
  go_wp2_with fail
  refine (C2.out _).mono ?_; rintro e w' ⟨rfl, rfl⟩
  go_wp2_with fail
  go_ret
  exact ⟨rfl, rfl⟩
theorem gap_no (n m : Int) (w : World) (h : n < 1 ∨ 100000 < n ∨ m < 0) : Calls Try.prog 10 #[.int .i64 n, .int .i64 m] w fun e w' => e = .returned (.int .i64 (-1)) ∧ w = w' := by
  have C1 := Lib.hid fun w => may_no n m w h
  clear h
  go_enter Try.func10, Try.ntmps10
  go_wp2_with fail
  refine (C1.out _).mono ?_; rintro e w' ⟨rfl, rfl⟩
  go_wp2_with fail
  go_ret
  exact ⟨rfl, rfl⟩
theorem rgap_yes (n m : Nat) (w : World) (h : 1 ≤ n) (h2 : n ≤ 100000) : Calls Try.prog 11 #[.int .i64 n, .int .i64 m] w fun e w' => e = .returned (.int .i64 (gN n m)) ∧ w = w' := by
  have C1 := Lib.hid fun w => rmay_yes n m w h h2
  obtain ⟨N, hN⟩ : ∃ N, N = n + 1 := ⟨_, rfl⟩
  obtain ⟨r, hr⟩ : ∃ r, r = m % N := ⟨_, rfl⟩
  obtain ⟨g, hg⟩ : ∃ g, g = gN n m := ⟨_, rfl⟩
  have hg2 : g = n - r := by rw [hg, hr, hN]; rfl
  have hrN : r < N := by rw [hr]; exact Nat.mod_lt _ (by omega)
  have k1 : IntKind.i64.wrap ((n : Int) + 1) = (N : Int) := by rw [show (n : Int) + 1 = (N : Int) by omega]; exact i64_nat _ (by omega)
  have k2 : (m : Int).tmod (N : Int) = (r : Int) := by rw [hr]; exact tmod_nat m N
  have k3 : IntKind.i64.wrap (r : Int) = (r : Int) := i64_nat _ (by omega)
  have k4 : IntKind.i64.wrap ((n : Int) - (r : Int)) = (g : Int) := by rw [show (n : Int) - (r : Int) = (g : Int) by omega]; exact i64_nat _ (by omega)
  have k5 : ¬ N = 0 := by omega
  have k6 : ¬ (N : Int) = 0 := by omega
  rw [← hg]
  clear hg hg2 hr hrN hN
  go_enter Try.func11, Try.ntmps11
  go_wp2_with fail
  refine (C1.out _).mono ?_; rintro e w' ⟨rfl, rfl⟩
  go_wp2_with fail
  go_ret
  exact ⟨rfl, rfl⟩
theorem rgap_no (n m : Int) (w : World) (h : n < 1 ∨ 100000 < n ∨ m < 0) : Calls Try.prog 11 #[.int .i64 n, .int .i64 m] w fun e w' => e = .returned (.int .i64 (-1)) ∧ w = w' := by
  have C1 := Lib.hid fun w => rmay_no n m w h
  clear h
  go_enter Try.func11, Try.ntmps11
  go_wp2_with fail
  refine (C1.out _).mono ?_; rintro e w' ⟨rfl, rfl⟩
  go_wp2_with fail
  go_ret
  exact ⟨rfl, rfl⟩

theorem move_yes (n m : Nat) (w : World) (h : 1 ≤ n) (h2 : n ≤ 100000) : Calls Try.prog 8 #[.int .i64 n, .int .i64 m] w fun e w' => e = .returned (.tuple #[.int .i64 (frN n m), .int .i64 (gN n m)]) ∧ w = w' := by
  have C1 := Lib.hid fun w => may_yes n m w h h2
  have C2 := Lib.hid fun w => gp_yes n m w h h2
  have hgn := gN_le n m
  by_cases h0 : gN n m = 0
  · have e : frN n m = n := if_pos h0
    rw [h0] at C2
    rw [e, h0]
    clear e hgn
    go_enter Try.func8, Try.ntmps8
    go_wp2_with fail
    refine (C1.out _).mono ?_; rintro e w' ⟨rfl, rfl⟩
    go_wp2_with fail
    refine (C2.out _).mono ?_; rintro e w' ⟨rfl, rfl⟩
    go_wp2_with fail
    go_ret2
    exact ⟨rfl, rfl⟩
  · obtain ⟨f, hf⟩ : ∃ f, frN n m = f := ⟨_, rfl⟩
    have e : f = gN n m - 1 := by rw [← hf]; exact if_neg h0
    rw [hf]
    generalize gN n m = g at *
    have k1 : IntKind.i64.wrap ((g : Int) - 1) = (f : Int) := by rw [show (g : Int) - 1 = (f : Int) by omega]; exact i64_nat _ (by omega)
    clear e hf hgn
    go_enter Try.func8, Try.ntmps8
    go_wp2_with fail
    refine (C1.out _).mono ?_; rintro e w' ⟨rfl, rfl⟩
    go_wp2_with fail
    refine (C2.out _).mono ?_; rintro e w' ⟨rfl, rfl⟩
    go_wp2_with fail
    go_ret2
    exact ⟨rfl, rfl⟩
theorem move_no (n m : Int) (w : World) (h : n < 1 ∨ 100000 < n ∨ m < 0) : Calls Try.prog 8 #[.int .i64 n, .int .i64 m] w fun e w' => e = .returned (.tuple #[.int .i64 (-1), .int .i64 (-1)]) ∧ w = w' := by
  have C1 := Lib.hid fun w => may_no n m w h
  clear h
  go_enter Try.func8, Try.ntmps8
  go_wp2_with fail
  refine (C1.out _).mono ?_; rintro e w' ⟨rfl, rfl⟩
  go_wp2_with fail
  go_ret2
  exact ⟨rfl, rfl⟩
theorem rmove_yes (n m : Nat) (w : World) (h : 1 ≤ n) (h2 : n ≤ 100000) : Calls Try.prog 9 #[.int .i64 n, .int .i64 m] w fun e w' => e = .returned (.tuple #[.int .i64 (frN n m), .int .i64 (gN n m)]) ∧ w = w' := by
  have C2 := Lib.hid fun w => rgap_yes n m w h h2
  have hgn := gN_le n m
  by_cases h0 : gN n m = 0
  · have e : frN n m = n := if_pos h0
    rw [h0] at C2
    rw [e, h0]
    clear e hgn
    go_enter Try.func9, Try.ntmps9
    go_wp2_with fail
    refine (C2.out _).mono ?_; rintro e w' ⟨rfl, rfl⟩
    go_wp2_with fail
    go_ret2
    exact ⟨rfl, rfl⟩
  · obtain ⟨f, hf⟩ : ∃ f, frN n m = f := ⟨_, rfl⟩
    have e : f = gN n m - 1 := by rw [← hf]; exact if_neg h0
    rw [hf]
    generalize gN n m = g at *
    have k1 : IntKind.i64.wrap ((g : Int) - 1) = (f : Int) := by rw [show (g : Int) - 1 = (f : Int) by omega]; exact i64_nat _ (by omega)
    have k2 : ¬ (g : Int) < 0 := by omega
    clear e hf hgn
    go_enter Try.func9, Try.ntmps9
    go_wp2_with fail
    refine (C2.out _).mono ?_; rintro e w' ⟨rfl, rfl⟩
    go_wp2_with fail
    go_ret2
    exact ⟨rfl, rfl⟩
theorem rmove_no (n m : Int) (w : World) (h : n < 1 ∨ 100000 < n ∨ m < 0) : Calls Try.prog 9 #[.int .i64 n, .int .i64 m] w fun e w' => e = .returned (.tuple #[.int .i64 (-1), .int .i64 (-1)]) ∧ w = w' := by
  have C1 := Lib.hid fun w => rgap_no n m w h
  clear h
  go_enter Try.func9, Try.ntmps9
  go_wp2_with fail
  refine (C1.out _).mono ?_; rintro e w' ⟨rfl, rfl⟩
  go_wp2_with fail
  go_ret2
  exact ⟨rfl, rfl⟩

theorem slot_yes (n m l : Nat) (w : World) (h2 : n ≤ 100000) (hm : m < 9223372036854775808) (hl : l < n) : Calls Try.prog 12 #[.int .i64 n, .int .i64 m, .int .i64 l] w fun e w' => e = .returned (.int .i64 (slN n m l)) ∧ w = w' := by
  have C1 := Lib.hid fun w => may_yes n m w (by omega) h2
  have C2 := Lib.hid fun w => shift_yes n m w (by omega) h2 hm
  have C3 := Lib.hid fun w => gp_yes n m w (by omega) h2
  have hs := sN_lt (n := n) (by omega) m
  obtain ⟨p, hp⟩ : ∃ p, p = (l + sN n m) % n := ⟨_, rfl⟩
  have hpn : p < n := by rw [hp]; exact Nat.mod_lt _ (by omega)
  have e : slN n m l = if p < gN n m then p else p + 1 := by rw [hp]; rfl
  obtain ⟨t, ht⟩ : ∃ t, t = l + sN n m := ⟨_, rfl⟩
  rw [← ht] at hp
  generalize sN n m = s at *
  generalize gN n m = g at *
  obtain ⟨r, hr⟩ : ∃ r, slN n m l = r := ⟨_, rfl⟩
  rw [hr] at e
  rw [hr]
  clear hr
  have k0 : ¬ (l : Int) < 0 := by omega
  have k1 : ¬ (n : Int) ≤ (l : Int) := by omega
  have k2 : IntKind.i64.wrap ((l : Int) + (s : Int)) = (t : Int) := by rw [show (l : Int) + (s : Int) = (t : Int) by omega]; exact i64_nat _ (by omega)
  have k3 : (t : Int).tmod (n : Int) = (p : Int) := by rw [hp]; exact tmod_nat t n
  have k4 : IntKind.i64.wrap (p : Int) = (p : Int) := i64_nat _ (by omega)
  have k5 : ¬ n = 0 := by omega
  have k6 : ¬ (n : Int) = 0 := by omega
  by_cases c : p < g
  · rw [if_pos c] at e
    have k7 : (p : Int) < (g : Int) := by omega
    subst e
    clear hp ht hs
    go_enter Try.func12, Try.ntmps12
    go_wp2_with fail
    refine (C1.out _).mono ?_; rintro e w' ⟨rfl, rfl⟩
    go_wp2_with fail
    refine (C2.out _).mono ?_; rintro e w' ⟨rfl, rfl⟩
    go_wp2_with fail
    refine (C3.out _).mono ?_; rintro e w' ⟨rfl, rfl⟩
    go_wp2_with fail
    go_ret
    exact ⟨rfl, rfl⟩
  · rw [if_neg c] at e
    have k7 : ¬ (p : Int) < (g : Int) := by omega
    have k8 : IntKind.i64.wrap ((p : Int) + 1) = (r : Int) := by rw [show (p : Int) + 1 = (r : Int) by omega]; exact i64_nat _ (by omega)
    clear hp ht hs e
    go_enter Try.func12, Try.ntmps12
    go_wp2_with fail
    refine (C1.out _).mono ?_; rintro e w' ⟨rfl, rfl⟩
    go_wp2_with fail
    refine (C2.out _).mono ?_; rintro e w' ⟨rfl, rfl⟩
    go_wp2_with fail
    refine (C3.out _).mono ?_; rintro e w' ⟨rfl, rfl⟩
    go_wp2_with fail
    go_ret
    exact ⟨rfl, rfl⟩

theorem rslot_yes (n m l : Nat) (w : World) (h2 : n ≤ 100000) (hm : m < 9223372036854775808) (hl : l < n) : Calls Try.prog 13 #[.int .i64 n, .int .i64 m, .int .i64 l] w fun e w' => e = .returned (.int .i64 (slN n m l)) ∧ w = w' := by
  have C1 := Lib.hid fun w => rmay_yes n m w (by omega) h2
  have C3 := Lib.hid fun w => rgap_yes n m w (by omega) h2
  have hs := sN_lt (n := n) (by omega) m
  obtain ⟨p, hp⟩ : ∃ p, p = (l + sN n m) % n := ⟨_, rfl⟩
  have hpn : p < n := by rw [hp]; exact Nat.mod_lt _ (by omega)
  have e : slN n m l = if p < gN n m then p else p + 1 := by rw [hp]; rfl
  obtain ⟨t, ht⟩ : ∃ t, t = l + sN n m := ⟨_, rfl⟩
  rw [← ht] at hp
  obtain ⟨N, hN⟩ : ∃ N, N = n + 1 := ⟨_, rfl⟩
  obtain ⟨q, hq⟩ : ∃ q, q = m / N := ⟨_, rfl⟩
  have hqm : q ≤ m := by rw [hq]; exact Nat.div_le_self _ _
  have j1 : IntKind.i64.wrap ((n : Int) + 1) = (N : Int) := by rw [show (n : Int) + 1 = (N : Int) by omega]; exact i64_nat _ (by omega)
  have j2 : (m : Int).tdiv (N : Int) = (q : Int) := by rw [hq]; exact tdiv_nat m N
  have j3 : IntKind.i64.wrap (q : Int) = (q : Int) := i64_nat _ (by omega)
  have j4 : (q : Int).tmod (n : Int) = (sN n m : Int) := by rw [show sN n m = q % n by rw [hq, hN]; rfl]; exact tmod_nat q n
  have j5 : ¬ N = 0 := by omega
  have j6 : ¬ (N : Int) = 0 := by omega
  generalize sN n m = s at *
  generalize gN n m = g at *
  obtain ⟨r, hr⟩ : ∃ r, slN n m l = r := ⟨_, rfl⟩
  rw [hr] at e
  rw [hr]
  clear hr
  have k0 : ¬ (l : Int) < 0 := by omega
  have k1 : ¬ (n : Int) ≤ (l : Int) := by omega
  have k9 : IntKind.i64.wrap (s : Int) = (s : Int) := i64_nat _ (by omega)
  have k2 : IntKind.i64.wrap ((l : Int) + (s : Int)) = (t : Int) := by rw [show (l : Int) + (s : Int) = (t : Int) by omega]; exact i64_nat _ (by omega)
  have k3 : (t : Int).tmod (n : Int) = (p : Int) := by rw [hp]; exact tmod_nat t n
  have k4 : IntKind.i64.wrap (p : Int) = (p : Int) := i64_nat _ (by omega)
  have k5 : ¬ n = 0 := by omega
  have k6 : ¬ (n : Int) = 0 := by omega
  by_cases c : p < g
  · rw [if_pos c] at e
    have k7 : ¬ (g : Int) ≤ (p : Int) := by omega
    subst e
    clear hp ht hs hN hq hqm
    go_enter Try.func13, Try.ntmps13
    go_wp2_with fail
    refine (C1.out _).mono ?_; rintro e w' ⟨rfl, rfl⟩
    go_wp2_with fail
    refine (C3.out _).mono ?_; rintro e w' ⟨rfl, rfl⟩
    go_wp2_with fail
    go_ret
    exact ⟨rfl, rfl⟩
  · rw [if_neg c] at e
    have k7 : (g : Int) ≤ (p : Int) := by omega
    have k8 : IntKind.i64.wrap ((p : Int) + 1) = (r : Int) := by rw [show (p : Int) + 1 = (r : Int) by omega]; exact i64_nat _ (by omega)
    clear hp ht hs e hN hq hqm
    go_enter Try.func13, Try.ntmps13
    go_wp2_with fail
    refine (C1.out _).mono ?_; rintro e w' ⟨rfl, rfl⟩
    go_wp2_with fail
    refine (C3.out _).mono ?_; rintro e w' ⟨rfl, rfl⟩
    go_wp2_with fail
    go_ret
    exact ⟨rfl, rfl⟩

/-- lines or slots that there aren't -/
theorem slot_no (n m l : Int) (w : World) (h : n < 1 ∨ 100000 < n ∨ m < 0) : Calls Try.prog 12 #[.int .i64 n, .int .i64 m, .int .i64 l] w fun e w' => e = .returned (.int .i64 (-1)) ∧ w = w' := by
  have C1 := Lib.hid fun w => may_no n m w h
  clear h
  go_enter Try.func12, Try.ntmps12
  go_wp2_with fail
  refine (C1.out _).mono ?_; rintro e w' ⟨rfl, rfl⟩
  go_wp2_with fail
  go_ret
  exact ⟨rfl, rfl⟩
theorem slot_out (n m : Nat) (l : Int) (w : World) (h : 1 ≤ n) (h2 : n ≤ 100000) (hl : l < 0 ∨ (n : Int) ≤ l) : Calls Try.prog 12 #[.int .i64 n, .int .i64 m, .int .i64 l] w fun e w' => e = .returned (.int .i64 (-1)) ∧ w = w' := by
  have C1 := Lib.hid fun w => may_yes n m w h h2
  by_cases c : l < 0
  · clear hl h h2
    go_enter Try.func12, Try.ntmps12
    go_wp2_with fail
    refine (C1.out _).mono ?_; rintro e w' ⟨rfl, rfl⟩
    go_wp2_with fail
    go_ret
    exact ⟨rfl, rfl⟩
  · have d : (n : Int) ≤ l := by omega
    clear hl h h2
    go_enter Try.func12, Try.ntmps12
    go_wp2_with fail
    refine (C1.out _).mono ?_; rintro e w' ⟨rfl, rfl⟩
    go_wp2_with fail
    go_ret
    exact ⟨rfl, rfl⟩
theorem rslot_no (n m l : Int) (w : World) (h : n < 1 ∨ 100000 < n ∨ m < 0) : Calls Try.prog 13 #[.int .i64 n, .int .i64 m, .int .i64 l] w fun e w' => e = .returned (.int .i64 (-1)) ∧ w = w' := by
  have C1 := Lib.hid fun w => rmay_no n m w h
  clear h
  go_enter Try.func13, Try.ntmps13
  go_wp2_with fail
  refine (C1.out _).mono ?_; rintro e w' ⟨rfl, rfl⟩
  go_wp2_with fail
  go_ret
  exact ⟨rfl, rfl⟩
theorem rslot_out (n m : Nat) (l : Int) (w : World) (h : 1 ≤ n) (h2 : n ≤ 100000) (hl : l < 0 ∨ (n : Int) ≤ l) : Calls Try.prog 13 #[.int .i64 n, .int .i64 m, .int .i64 l] w fun e w' => e = .returned (.int .i64 (-1)) ∧ w = w' := by
  have C1 := Lib.hid fun w => rmay_yes n m w h h2
  by_cases c : l < 0
  · clear hl h h2
    go_enter Try.func13, Try.ntmps13
    go_wp2_with fail
    refine (C1.out _).mono ?_; rintro e w' ⟨rfl, rfl⟩
    go_wp2_with fail
    go_ret
    exact ⟨rfl, rfl⟩
  · have d : (n : Int) ≤ l := by omega
    clear hl h h2
    go_enter Try.func13, Try.ntmps13
    go_wp2_with fail
    refine (C1.out _).mono ?_; rintro e w' ⟨rfl, rfl⟩
    go_wp2_with fail
    go_ret
    exact ⟨rfl, rfl⟩
theorem line_no (n m l : Int) (w : World) (h : n < 1 ∨ 100000 < n ∨ m < 0) : Calls Try.prog 14 #[.int .i64 n, .int .i64 m, .int .i64 l] w fun e w' => e = .returned (.int .i64 (-1)) ∧ w = w' := by
  have C1 := Lib.hid fun w => may_no n m w h
  clear h
  go_enter Try.func14, Try.ntmps14
  go_wp2_with fail
  refine (C1.out _).mono ?_; rintro e w' ⟨rfl, rfl⟩
  go_wp2_with fail
  go_ret
  exact ⟨rfl, rfl⟩
theorem line_out (n m : Nat) (l : Int) (w : World) (h : 1 ≤ n) (h2 : n ≤ 100000) (hl : l < 0 ∨ (n : Int) < l) : Calls Try.prog 14 #[.int .i64 n, .int .i64 m, .int .i64 l] w fun e w' => e = .returned (.int .i64 (-1)) ∧ w = w' := by
  have C1 := Lib.hid fun w => may_yes n m w h h2
  by_cases c : l < 0
  · clear hl h h2
    go_enter Try.func14, Try.ntmps14
    go_wp2_with fail
    refine (C1.out _).mono ?_; rintro e w' ⟨rfl, rfl⟩
    go_wp2_with fail
    go_ret
    exact ⟨rfl, rfl⟩
  · have d : (n : Int) < l := by omega
    clear hl h h2
    go_enter Try.func14, Try.ntmps14
    go_wp2_with fail
    refine (C1.out _).mono ?_; rintro e w' ⟨rfl, rfl⟩
    go_wp2_with fail
    go_ret
    exact ⟨rfl, rfl⟩
theorem rline_no (n m l : Int) (w : World) (h : n < 1 ∨ 100000 < n ∨ m < 0) : Calls Try.prog 15 #[.int .i64 n, .int .i64 m, .int .i64 l] w fun e w' => e = .returned (.int .i64 (-1)) ∧ w = w' := by
  have C1 := Lib.hid fun w => rmay_no n m w h
  clear h
  go_enter Try.func15, Try.ntmps15
  go_wp2_with fail
  refine (C1.out _).mono ?_; rintro e w' ⟨rfl, rfl⟩
  go_wp2_with fail
  go_ret
  exact ⟨rfl, rfl⟩
theorem rline_out (n m : Nat) (l : Int) (w : World) (h : 1 ≤ n) (h2 : n ≤ 100000) (hl : l < 0 ∨ (n : Int) < l) : Calls Try.prog 15 #[.int .i64 n, .int .i64 m, .int .i64 l] w fun e w' => e = .returned (.int .i64 (-1)) ∧ w = w' := by
  have C1 := Lib.hid fun w => rmay_yes n m w h h2
  by_cases c : l < 0
  · clear hl h h2
    go_enter Try.func15, Try.ntmps15
    go_wp2_with fail
    refine (C1.out _).mono ?_; rintro e w' ⟨rfl, rfl⟩
    go_wp2_with fail
    go_ret
    exact ⟨rfl, rfl⟩
  · have d : (n : Int) < l := by omega
    clear hl h h2
    go_enter Try.func15, Try.ntmps15
    go_wp2_with fail
    refine (C1.out _).mono ?_; rintro e w' ⟨rfl, rfl⟩
    go_wp2_with fail
    go_ret
    exact ⟨rfl, rfl⟩

theorem line_gap (n m : Nat) (w : World) (h : 1 ≤ n) (h2 : n ≤ 100000) : Calls Try.prog 14 #[.int .i64 n, .int .i64 m, .int .i64 (gN n m : Nat)] w fun e w' => e = .returned (.int .i64 (-1)) ∧ w = w' := by
  have C1 := Lib.hid fun w => may_yes n m w h h2
  have C3 := Lib.hid fun w => gp_yes n m w h h2
  have hgn := gN_le n m
  generalize gN n m = g at *
  have k0 : ¬ (g : Int) < 0 := by omega
  have k1 : ¬ (n : Int) < (g : Int) := by omega
  clear hgn h h2
  go_enter Try.func14, Try.ntmps14
  go_wp2_with fail
  refine (C1.out _).mono ?_; rintro e w' ⟨rfl, rfl⟩
  go_wp2_with fail
  refine (C3.out _).mono ?_; rintro e w' ⟨rfl, rfl⟩
  go_wp2_with fail
  go_ret
  exact ⟨rfl, rfl⟩
theorem rline_gap (n m : Nat) (w : World) (h : 1 ≤ n) (h2 : n ≤ 100000) : Calls Try.prog 15 #[.int .i64 n, .int .i64 m, .int .i64 (gN n m : Nat)] w fun e w' => e = .returned (.int .i64 (-1)) ∧ w = w' := by
  have C1 := Lib.hid fun w => rmay_yes n m w h h2
  have C3 := Lib.hid fun w => rgap_yes n m w h h2
  have hgn := gN_le n m
  generalize gN n m = g at *
  have k0 : ¬ (g : Int) < 0 := by omega
  have k1 : ¬ (n : Int) < (g : Int) := by omega
  clear hgn h h2
  go_enter Try.func15, Try.ntmps15
  go_wp2_with fail
  refine (C1.out _).mono ?_; rintro e w' ⟨rfl, rfl⟩
  go_wp2_with fail
  refine (C3.out _).mono ?_; rintro e w' ⟨rfl, rfl⟩
  go_wp2_with fail
  go_ret
  exact ⟨rfl, rfl⟩

theorem line_yes (n m s : Nat) (w : World) (h : 1 ≤ n) (h2 : n ≤ 100000) (hm : m < 9223372036854775808) (hs : s ≤ n) (hg : s ≠ gN n m) : Calls Try.prog 14 #[.int .i64 n, .int .i64 m, .int .i64 s] w fun e w' => e = .returned (.int .i64 (lnN n m s)) ∧ w = w' := by
  have C1 := Lib.hid fun w => may_yes n m w h h2
  have C2 := Lib.hid fun w => shift_yes n m w h h2 hm
  have C3 := Lib.hid fun w => gp_yes n m w h h2
  have hd := sN_lt (n := n) h m
  have hgn := gN_le n m
  obtain ⟨p, hp⟩ : ∃ p, p = if gN n m < s then s - 1 else s := ⟨_, rfl⟩
  have e : lnN n m s = (p + n - sN n m) % n := by rw [hp]; rfl
  obtain ⟨r, hr⟩ : ∃ r, lnN n m s = r := ⟨_, rfl⟩
  have hrn : r < n := by rw [← hr]; exact lnN_lt h m s
  rw [hr] at e
  rw [hr]
  clear hr
  generalize sN n m = d at *
  generalize gN n m = g at *
  obtain ⟨t, ht⟩ : ∃ t, t = p + n := ⟨_, rfl⟩
  obtain ⟨u, hu⟩ : ∃ u, u = t - d := ⟨_, rfl⟩
  rw [← ht, ← hu] at e
  have k0 : ¬ (s : Int) < 0 := by omega
  have k1 : ¬ (n : Int) < (s : Int) := by omega
  have k2 : ¬ (s : Int) = (g : Int) := by omega
  have hpn : p ≤ n := by rw [hp]; split <;> omega
  have k3 : IntKind.i64.wrap ((p : Int) + (n : Int)) = (t : Int) := by rw [show (p : Int) + (n : Int) = (t : Int) by omega]; exact i64_nat _ (by omega)
  have k4 : IntKind.i64.wrap ((t : Int) - (d : Int)) = (u : Int) := by rw [show (t : Int) - (d : Int) = (u : Int) by omega]; exact i64_nat _ (by omega)
  have k5 : (u : Int).tmod (n : Int) = (r : Int) := by rw [e]; exact tmod_nat u n
  have k6 : IntKind.i64.wrap (r : Int) = (r : Int) := i64_nat _ (by omega)
  have k7 : ¬ n = 0 := by omega
  have k8 : ¬ (n : Int) = 0 := by omega
  by_cases c : g < s
  · rw [if_pos c] at hp
    have k9 : (g : Int) < (s : Int) := by omega
    have k10 : IntKind.i64.wrap ((s : Int) - 1) = (p : Int) := by rw [show (s : Int) - 1 = (p : Int) by omega]; exact i64_nat _ (by omega)
    clear hp ht hu e hs hgn hpn hd
    go_enter Try.func14, Try.ntmps14
    go_wp2_with fail
    refine (C1.out _).mono ?_; rintro e w' ⟨rfl, rfl⟩
    go_wp2_with fail
    refine (C3.out _).mono ?_; rintro e w' ⟨rfl, rfl⟩
    go_wp2_with fail
    refine (C2.out _).mono ?_; rintro e w' ⟨rfl, rfl⟩
    go_wp2_with fail
    go_ret
    exact ⟨rfl, rfl⟩
  · rw [if_neg c] at hp
    have k9 : ¬ (g : Int) < (s : Int) := by omega
    subst hp
    clear ht hu e hs hgn hpn hd
    go_enter Try.func14, Try.ntmps14
    go_wp2_with fail
    refine (C1.out _).mono ?_; rintro e w' ⟨rfl, rfl⟩
    go_wp2_with fail
    refine (C3.out _).mono ?_; rintro e w' ⟨rfl, rfl⟩
    go_wp2_with fail
    refine (C2.out _).mono ?_; rintro e w' ⟨rfl, rfl⟩
    go_wp2_with fail
    go_ret
    exact ⟨rfl, rfl⟩

theorem rline_yes (n m s : Nat) (w : World) (h : 1 ≤ n) (h2 : n ≤ 100000) (hm : m < 9223372036854775808) (hs : s ≤ n) (hg : s ≠ gN n m) : Calls Try.prog 15 #[.int .i64 n, .int .i64 m, .int .i64 s] w fun e w' => e = .returned (.int .i64 (lnN n m s)) ∧ w = w' := by
  have C1 := Lib.hid fun w => rmay_yes n m w h h2
  have C3 := Lib.hid fun w => rgap_yes n m w h h2
  have hd := sN_lt (n := n) h m
  have hgn := gN_le n m
  obtain ⟨p, hp⟩ : ∃ p, p = if gN n m < s then s - 1 else s := ⟨_, rfl⟩
  have e : lnN n m s = (p + n - sN n m) % n := by rw [hp]; rfl
  obtain ⟨r, hr⟩ : ∃ r, lnN n m s = r := ⟨_, rfl⟩
  have hrn : r < n := by rw [← hr]; exact lnN_lt h m s
  rw [hr] at e
  rw [hr]
  clear hr
  obtain ⟨N, hN⟩ : ∃ N, N = n + 1 := ⟨_, rfl⟩
  obtain ⟨q, hq⟩ : ∃ q, q = m / N := ⟨_, rfl⟩
  have hqm : q ≤ m := by rw [hq]; exact Nat.div_le_self _ _
  have j1 : IntKind.i64.wrap ((n : Int) + 1) = (N : Int) := by rw [show (n : Int) + 1 = (N : Int) by omega]; exact i64_nat _ (by omega)
  have j2 : (m : Int).tdiv (N : Int) = (q : Int) := by rw [hq]; exact tdiv_nat m N
  have j3 : IntKind.i64.wrap (q : Int) = (q : Int) := i64_nat _ (by omega)
  have j4 : (q : Int).tmod (n : Int) = (sN n m : Int) := by rw [show sN n m = q % n by rw [hq, hN]; rfl]; exact tmod_nat q n
  have j5 : ¬ N = 0 := by omega
  have j6 : ¬ (N : Int) = 0 := by omega
  generalize sN n m = d at *
  generalize gN n m = g at *
  obtain ⟨u, hu⟩ : ∃ u, u = p + n - d := ⟨_, rfl⟩
  rw [← hu] at e
  have j7 : IntKind.i64.wrap (d : Int) = (d : Int) := i64_nat _ (by omega)
  have k0 : ¬ (s : Int) < 0 := by omega
  have k1 : ¬ (n : Int) < (s : Int) := by omega
  have k2 : ((s : Int) == (g : Int)) = false := by simpa using (show ¬ (s : Int) = (g : Int) by omega)
  have k12 : ¬ n < s := by omega
  have hpn : p ≤ n := by rw [hp]; split <;> omega
  obtain ⟨z, hz⟩ : ∃ z, (p : Int) - (d : Int) = z := ⟨_, rfl⟩
  have k3 : IntKind.i64.wrap ((p : Int) - (d : Int)) = z := by rw [hz]; exact IntWalk.i64_in _ (by omega)
  have k4 : IntKind.i64.wrap (z + (n : Int)) = (u : Int) := by rw [show z + (n : Int) = (u : Int) by omega]; exact i64_nat _ (by omega)
  have k5 : (u : Int).tmod (n : Int) = (r : Int) := by rw [e]; exact tmod_nat u n
  have k6 : IntKind.i64.wrap (r : Int) = (r : Int) := i64_nat _ (by omega)
  have k7 : ¬ n = 0 := by omega
  have k8 : ¬ (n : Int) = 0 := by omega
  by_cases c : g < s
  · rw [if_pos c] at hp
    have k9 : (g : Int) < (s : Int) := by omega
    have k10 : IntKind.i64.wrap ((s : Int) - 1) = (p : Int) := by rw [show (s : Int) - 1 = (p : Int) by omega]; exact i64_nat _ (by omega)
    clear hp hu e hs hgn hpn hd hz hN hq hqm
    go_enter Try.func15, Try.ntmps15
    go_wp2_with fail
    refine (C1.out _).mono ?_; rintro e w' ⟨rfl, rfl⟩
    go_wp2_with fail
    refine (C3.out _).mono ?_; rintro e w' ⟨rfl, rfl⟩
    go_wp2_with fail
    refine (C3.out _).mono ?_; rintro e w' ⟨rfl, rfl⟩
    go_wp2_with fail
    go_ret
    exact ⟨rfl, rfl⟩
  · rw [if_neg c] at hp
    have k9 : ¬ (g : Int) < (s : Int) := by omega
    subst hp
    clear hu e hs hgn hpn hd hz hN hq hqm
    go_enter Try.func15, Try.ntmps15
    go_wp2_with fail
    refine (C1.out _).mono ?_; rintro e w' ⟨rfl, rfl⟩
    go_wp2_with fail
    refine (C3.out _).mono ?_; rintro e w' ⟨rfl, rfl⟩
    go_wp2_with fail
    refine (C3.out _).mono ?_; rintro e w' ⟨rfl, rfl⟩
    go_wp2_with fail
    go_ret
    exact ⟨rfl, rfl⟩

set_option maxHeartbeats 1000000 in
theorem awake_any (w : World) : Calls Try.prog 16 #[] w fun e w' => e = .returned (.bool true) ∧ Below w.heap.size w w' := by
  have C1 := Lib.hid fun w => move_yes 3 0 w (by decide) (by decide)
  have C2 := Lib.hid fun w => gap_yes 3 0 w (by decide) (by decide)
  have C3 := Lib.hid fun w => slot_yes 3 0 1 w (by decide) (by decide) (by decide)
  have C4 := Lib.hid fun w => slot_yes 3 1 2 w (by decide) (by decide) (by decide)
  have C5 := Lib.hid fun w => line_yes 3 1 3 w (by decide) (by decide) (by decide) (by decide) (by decide)
  rw [show frN 3 0 = 2 from rfl, show gN 3 0 = 3 from rfl] at C1
  rw [show gN 3 0 = 3 from rfl] at C2
  rw [show slN 3 0 1 = 1 from rfl] at C3
  rw [show slN 3 1 2 = 3 from rfl] at C4
  rw [show lnN 3 1 3 = 2 from rfl] at C5
  go_enter Try.func16, Try.ntmps16
  go_wp2_with fail
  refine (C1.out _).mono ?_; rintro e w' ⟨rfl, rfl⟩
  go_wp2_with fail
  refine (C2.out _).mono ?_; rintro e w' ⟨rfl, rfl⟩
  go_wp2_with fail
  refine (C3.out _).mono ?_; rintro e w' ⟨rfl, rfl⟩
  go_wp2_with fail
  refine (C4.out _).mono ?_; rintro e w' ⟨rfl, rfl⟩
  go_wp2_with fail
  refine (C5.out _).mono ?_; rintro e w' ⟨rfl, rfl⟩
  go_wp2
  go_ret
  exact ⟨rfl, Below.refl _ _⟩
end Go.Proofs.Ytmodoploohnbcaa
