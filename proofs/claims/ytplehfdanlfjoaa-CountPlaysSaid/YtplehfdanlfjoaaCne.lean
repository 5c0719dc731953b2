/-
  Contracts of package count: made, told whole; pages of lines; two slices of ints that are the same.
-/
import Derived.Test.YtplehfdanlfjoaaCnd
import Derived.BigQuiet
namespace Go.Proofs.Ytplehfdanlfjoaa
open Go.RowKit

/-- a count as a page can begin with it -/
def br (k : Int) : Nat := if k ≤ 0 then 0 else if 1099511627776 ≤ k then 1099511627776 else k.toNat
theorem br_le (k : Int) : br k ≤ 1099511627776 := by unfold br; split; omega; split <;> omega
theorem bring_is (k : Int) (w : World) : Calls Try.prog 15 #[.int .i64 k] w fun e w' => e = .returned (.int .i64 (br k : Int)) ∧ w = w' := by
  by_cases h1 : k ≤ 0
  · have e : (br k : Int) = 0 := by unfold br; rw [if_pos h1]; rfl
    rw [e]
    by_cases h0 : k < 0
    · have i1 : ¬ k ≥ 0 := by omega
      have i2 : ¬ 0 ≤ k := by omega
      go_enter Try.func15, Try.ntmps15
      go_wp2_with fail
      go_ret
      exact ⟨rfl, rfl⟩
    · obtain rfl : k = 0 := by omega
      go_enter Try.func15, Try.ntmps15
      go_wp2_with fail
      go_ret
      exact ⟨rfl, rfl⟩
  · by_cases h2 : 1099511627776 ≤ k
    · have e : (br k : Int) = 1099511627776 := by unfold br; rw [if_neg h1, if_pos h2]; rfl
      rw [e]
      have i2 : 0 ≤ k := by omega
      by_cases h3 : k = 1099511627776
      · subst h3
        clear h1 h2 e i2
        go_enter Try.func15, Try.ntmps15
        go_wp2_with fail
        go_ret
        exact ⟨rfl, rfl⟩
      · have i3 : 1099511627776 < k := by omega
        have i4 : ¬ k ≤ 1099511627776 := by omega
        have i5 : 0 < k := by omega
        clear h3
        go_enter Try.func15, Try.ntmps15
        go_wp2_with fail
        go_ret
        exact ⟨rfl, rfl⟩
    · have e : (br k : Int) = k := by unfold br; rw [if_neg h1, if_neg h2]; omega
      rw [e]
      have i2 : 0 ≤ k := by omega
      have i3 : k < 1099511627776 := by omega
      have i4 : k ≤ 1099511627776 := by omega
      have i5 : 0 < k := by omega
      go_enter Try.func15, Try.ntmps15
      go_wp2_with fail
      go_ret
      exact ⟨rfl, rfl⟩
theorem page_is (l : Nat) (hl : l < 9223372036854775808) (w : World) : Calls Try.prog 14 #[.int .i64 (l : Int)] w fun e w' => e = .returned (.int .i64 ((l / 4 : Nat) : Int)) ∧ w = w' := by
  by_cases h : l = 0
  · subst h
    go_enter Try.func14, Try.ntmps14
    go_wp2_with fail
    go_ret
    exact ⟨rfl, rfl⟩
  · have t : (l : Int).tdiv 4 = ((l / 4 : Nat) : Int) := tdiv_nat l 4
    have k : IntKind.i64.wrap ((l / 4 : Nat) : Int) = ((l / 4 : Nat) : Int) := i64_nat _ (by omega)
    generalize l / 4 = m at *
    have i2 : (0 : Int) ≤ (l : Int) := by omega
    have i5 : (0 : Int) < (l : Int) := by omega
    have i6 : ¬ (l : Int) ≤ 0 := by omega
    have i7 : ¬ (l : Int) < 0 := by omega
    clear h hl
    go_enter Try.func14, Try.ntmps14
    go_wp2_with fail
    go_ret
    exact ⟨rfl, rfl⟩
theorem page_neg (l : Int) (hl : l < 0) (w : World) : Calls Try.prog 14 #[.int .i64 l] w fun e w' => e = .returned (.int .i64 0) ∧ w = w' := by
  have i2 : ¬ (0 : Int) ≤ l := by omega
  have i5 : ¬ (0 : Int) < l := by omega
  have i6 : l ≤ 0 := by omega
  go_enter Try.func14, Try.ntmps14
  go_wp2_with fail
  go_ret
  exact ⟨rfl, rfl⟩
theorem ints_same {v u : Value} {l : List Int} {w : World} (hv : RI w v l) (hu : RI w u l) : Calls Try.prog 12 #[v, u] w fun e w' => e = .returned (.bool true) ∧ ∃ n, w' = w.drewN n := by
  obtain ⟨p, c, rfl, h1, h2, h3⟩ := hv
  obtain ⟨q, d, rfl, g1, g2, g3⟩ := hu
  have HS : Hid (∀ j, j < l.length → ∃ b off b' off', p = some ⟨b, off, none⟩ ∧ q = some ⟨b', off', none⟩ ∧ w.cell? ⟨b, off + j, none⟩ = some (.int .i64 (l.getD j 0)) ∧ w.cell? ⟨b', off' + j, none⟩ = some (.int .i64 (l.getD j 0))) := Lib.hid fun j hj => by
    rcases h3 with h3 | ⟨b, off, rfl, hc⟩
    · subst h3; simp at hj
    · rcases g3 with g3 | ⟨b', off', rfl, gc⟩
      · subst g3; simp at hj
      · exact ⟨b, off, b', off', rfl, rfl, hc j hj, gc j hj⟩
  unfold maxLen at h2
  have HL : Hid (l.length ≤ 9223372036854775807) := Lib.hid (by omega)
  clear h3 g3 g1 g2 h1 h2
  go_enter Try.func12, Try.ntmps12
  go_wp2
  go_loopw [13] (fun i wr => ∃ k : Nat, k ≤ l.length ∧ i = .int .i64 k ∧ Hid (∃ n, wr = w.drewN n)) (fun i _ => l.length - (intOf i).toNat)
  case atStart => exact ⟨0, Nat.zero_le _, rfl, Lib.hid ⟨0, rfl⟩⟩
  case round =>
    obtain ⟨k, hk, rfl, HD⟩ := hrel
    by_cases hlt : k < l.length
    · obtain ⟨b, off, b', off', rfl, rfl, c1, c2⟩ := HS.out k hlt
      have j0 : IntKind.i64.wrap ((k : Int) + 1) = ((k + 1 : Nat) : Int) := by rw [show (k : Int) + 1 = ((k + 1 : Nat) : Int) by omega]; exact i64_nat _ (by have := HL.out; omega)
      have i0 : (0 : Int) ≤ (k : Int) := by omega
      have i1 : (k : Int) < (l.length : Int) := by omega
      have i2 : ¬ (k : Int) < 0 := by omega
      obtain ⟨n, rfl⟩ := HD.out
      have d1 : ∀ m, ((w.drewN n).drewN m).cell? ⟨b, off + k, none⟩ = some (.int .i64 (l.getD k 0)) := fun m => c1
      have d2 : ∀ m, ((w.drewN n).drewN m).cell? ⟨b', off' + k, none⟩ = some (.int .i64 (l.getD k 0)) := fun m => c2
      clear HD HS
      generalize l.getD k 0 = y at *
      generalize l.length = L at *
      go_wp2_with fail
      go_quiet (fail)
      go_wp2
      exact ⟨⟨k + 1, by omega, by go_num, Lib.hid ⟨_, rfl⟩⟩, by simp [intOf]; omega⟩
    · obtain rfl : k = l.length := by omega
      go_wp2
      go_ret
      exact ⟨rfl, HD.out⟩
end Go.Proofs.Ytplehfdanlfjoaa
