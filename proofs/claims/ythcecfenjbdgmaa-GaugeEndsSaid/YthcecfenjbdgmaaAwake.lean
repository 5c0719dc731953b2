/-
  What every statement of the first layer asks besides: some numbers that every program must know.
-/
import Derived.Test.YthcecfenjbdgmaaWhole
import Derived.Test.YthcecfenjbdgmaaMin
import Derived.ProofKit
namespace Go.Proofs.Ythcecfenjbdgmaa
set_option maxRecDepth 100000
open D Go.RowKit

theorem k_div : divV 4613937818241073152 4611686018427387904 = 4609434218613702656 := by decide +kernel
theorem k_divB : divB 4613937818241073152 4611686018427387904 = true := by decide +kernel
theorem k_whole : wholeV 4619567317775286272 = 7 := by decide +kernel
theorem k_wholeB : wholeB 4619567317775286272 = true := by decide +kernel
theorem k_cmp1 : cmp3 (rk 9223372036854775808) (rk 0) = -1 := by decide +kernel
theorem k_cmp2 : cmp3 (rk 9221120237041090561) (rk 9218868437227405312) = 1 := by decide +kernel
theorem k_clamp : clampW 4621256167635550208 4607182418800017408 4613937818241073152 = 4613937818241073152 := by decide +kernel
theorem k_min : minV [4611686018427387904, 4607182418800017408] = 4607182418800017408 := by decide +kernel

/-- the calls of 'awake', each at its own numbers -/
theorem c_div (w : World) : Calls Try.prog 51 #[.float .f64 4613937818241073152, .float .f64 4611686018427387904] w fun e w' => e = .returned (.tuple #[.float .f64 4609434218613702656, .bool true]) ∧ Below w.heap.size w w' :=
  (div_any _ _ w (by decide) (by decide)).mono fun e w' ⟨h, n, g⟩ => ⟨by rw [h, k_div, k_divB], by rw [g]; exact below_drewN (Below.refl _ _) n⟩
theorem c_cmp1 (w : World) : Calls Try.prog 22 #[.float .f64 9223372036854775808, .float .f64 0] w fun e w' => e = .returned (.int .i64 (-1)) ∧ w = w' :=
  (cmp_any _ _ w (by decide) (by decide)).mono fun e w' ⟨h, g⟩ => ⟨by rw [h, k_cmp1], g⟩
theorem c_cmp2 (w : World) : Calls Try.prog 22 #[.float .f64 9221120237041090561, .float .f64 9218868437227405312] w fun e w' => e = .returned (.int .i64 1) ∧ w = w' :=
  (cmp_any _ _ w (by decide) (by decide)).mono fun e w' ⟨h, g⟩ => ⟨by rw [h, k_cmp2], g⟩
theorem c_inf (w : World) : Calls Try.prog 24 #[.int .i64 1] w fun e w' => e = .returned (.float .f64 9218868437227405312) ∧ w = w' := inf_any 1 w
theorem c_min (b cap : Nat) (w : World) (h0 : w.cell? ⟨b, 0, none⟩ = some (.float .f64 4611686018427387904)) (h1 : w.cell? ⟨b, 1, none⟩ = some (.float .f64 4607182418800017408)) :
    Calls Try.prog 28 #[.slice (some ⟨b, 0, none⟩) 2 cap] w fun e w' => e = .returned (.float .f64 4607182418800017408) ∧ w = w' := by
  have := min_any [4611686018427387904, 4607182418800017408] b 0 cap w (by decide) (by
    intro i hi
    have : i = 0 ∨ i = 1 := by simp at hi; omega
    rcases this with rfl | rfl
    · exact h0
    · exact h1) (by
    intro i hi
    have : i = 0 ∨ i = 1 := by simp at hi; omega
    rcases this with rfl | rfl <;> decide)
  exact this.mono fun e w' ⟨h, g⟩ => ⟨by rw [h, k_min], g⟩

end Go.Proofs.Ythcecfenjbdgmaa
