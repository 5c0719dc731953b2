/-
  Contracts of package chain, and of the reference's of the same: which blocks may be.
-/
import Derived.Test.YtnhhdkdjejfcjaaBka
namespace Go.Proofs.Ytnhhdkdjejfcjaa
set_option maxRecDepth 100000
open Go.RowKit

theorem rmayw_is (n : Int) (w : World) : Calls Try.prog 16 #[.int .i64 n] w fun e w' => e = .returned (.bool (decide (Mw n))) ∧ w = w' := by
  by_cases h1 : n ≥ 8
  · by_cases h2 : n ≤ 512
    · have h3 : n.tmod 8 = n % 8 := Int.tmod_eq_emod_of_nonneg (by omega)
      by_cases h4 : n % 8 = 0
      · rw [h4] at h3
        rw [decide_eq_true (show Mw n from ⟨h1, h2, h4⟩)]
        clear h4
        go_enter Try.func16, Try.ntmps16
        go_wp2_with fail
        go_ret
        exact ⟨rfl, rfl⟩
      · have h6 : (n % 8 == 0) = false := beq_eq_false_iff_ne.2 h4
        rw [decide_eq_false (show ¬ Mw n from fun h => h4 h.2.2)]
        go_enter Try.func16, Try.ntmps16
        go_wp2_with fail
        go_ret
        exact ⟨rfl, rfl⟩
    · rw [decide_eq_false (show ¬ Mw n from fun h => h2 h.2.1)]
      go_enter Try.func16, Try.ntmps16
      go_wp2_with fail
      go_ret
      exact ⟨rfl, rfl⟩
  · rw [decide_eq_false (show ¬ Mw n from fun h => h1 h.1)]
    go_enter Try.func16, Try.ntmps16
    go_wp2_with fail
    go_ret
    exact ⟨rfl, rfl⟩

end Go.Proofs.Ytnhhdkdjejfcjaa
