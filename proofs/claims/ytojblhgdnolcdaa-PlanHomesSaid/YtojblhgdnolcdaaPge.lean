/-
  Contracts of package count: pages of lines.
-/
import Derived.Test.YtojblhgdnolcdaaLaw
namespace Go.Proofs.Ytojblhgdnolcdaa
open Go.RowKit

theorem page_is (l : Nat) (hl : l < 9223372036854775808) (w : World) : Calls Try.prog 17 #[.int .i64 (l : Int)] w fun e w' => e = .returned (.int .i64 ((l / 4 : Nat) : Int)) ∧ w = w' := by
  by_cases h : l = 0
  · subst h
    go_enter Try.func17, Try.ntmps17
    go_wp2_with fail
    go_ret
    exact ⟨rfl, rfl⟩
  · have t : (l : Int).tdiv 4 = ((l / 4 : Nat) : Int) := tdiv_nat l 4
    have k : IntKind.i64.wrap ((l / 4 : Nat) : Int) = ((l / 4 : Nat) : Int) := i64_nat _ (by omega)
    generalize l / 4 = m at *
    have i2 : (0 : Int) ≤ (l : Int) := by omega
    have i5 : (0 : Int) < (l : Int) := by omega
    have i6 : ¬ (l : Int) ≤ 0 := by omega
    have i7 : ¬ (l : Int) < 0 := by omega
    clear h hl
    go_enter Try.func17, Try.ntmps17
    go_wp2_with fail
    go_ret
    exact ⟨rfl, rfl⟩
theorem page_neg (l : Int) (hl : l < 0) (w : World) : Calls Try.prog 17 #[.int .i64 l] w fun e w' => e = .returned (.int .i64 0) ∧ w = w' := by
  have i2 : ¬ (0 : Int) ≤ l := by omega
  have i5 : ¬ (0 : Int) < l := by omega
  have i6 : l ≤ 0 := by omega
  go_enter Try.func17, Try.ntmps17
  go_wp2_with fail
  go_ret
  exact ⟨rfl, rfl⟩
end Go.Proofs.Ytojblhgdnolcdaa
