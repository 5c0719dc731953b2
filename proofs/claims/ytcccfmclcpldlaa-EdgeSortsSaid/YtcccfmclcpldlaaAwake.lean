/-
  What every statement of the first layer asks besides: some numbers that every program must know.
-/
import Derived.Test.YtcccfmclcpldlaaWhole
import Derived.Test.YtcccfmclcpldlaaMin
import Derived.ProofKit
namespace Go.Proofs.Ytcccfmclcpldlaa
open D Go.RowKit

theorem k_div : divV 4613937818241073152 4611686018427387904 = 4609434218613702656 := by decide +kernel
theorem k_divB : divB 4613937818241073152 4611686018427387904 = true := by decide +kernel
theorem k_whole : wholeV 4619567317775286272 = 7 := by decide +kernel
theorem k_wholeB : wholeB 4619567317775286272 = true := by decide +kernel
theorem k_cmp1 : cmp3 (rk 9223372036854775808) (rk 0) = -1 := by decide +kernel
theorem k_cmp2 : cmp3 (rk 9221120237041090561) (rk 9218868437227405312) = 1 := by decide +kernel
theorem k_clamp : clampW 4621256167635550208 4607182418800017408 4613937818241073152 = 4613937818241073152 := by decide +kernel
theorem k_min : minV [4611686018427387904, 4607182418800017408] = 4607182418800017408 := by decide +kernel

/-- the calls of 'awake', each at its own numbers -/
theorem c_div (w : World) : Calls Try.prog 15 #[.float .f64 4613937818241073152, .float .f64 4611686018427387904] w fun e w' => e = .returned (.tuple #[.float .f64 4609434218613702656, .bool true]) ∧ Below w.heap.size w w' :=
  (div_any _ _ w (by decide) (by decide)).mono fun e w' ⟨h, n, g⟩ => ⟨by rw [h, k_div, k_divB], by rw [g]; exact below_drewN (Below.refl _ _) n⟩
theorem c_whole (w : World) : Calls Try.prog 17 #[.float .f64 4619567317775286272] w fun e w' => e = .returned (.tuple #[.int .i64 7, .bool true]) ∧ w = w' :=
  (whole_any _ w).mono fun e w' ⟨h, g⟩ => ⟨by rw [h, k_whole, k_wholeB], g⟩
theorem c_cmp1 (w : World) : Calls Try.prog 19 #[.float .f64 9223372036854775808, .float .f64 0] w fun e w' => e = .returned (.int .i64 (-1)) ∧ w = w' :=
  (cmp_any _ _ w (by decide) (by decide)).mono fun e w' ⟨h, g⟩ => ⟨by rw [h, k_cmp1], g⟩
theorem c_cmp2 (w : World) : Calls Try.prog 19 #[.float .f64 9221120237041090561, .float .f64 9218868437227405312] w fun e w' => e = .returned (.int .i64 1) ∧ w = w' :=
  (cmp_any _ _ w (by decide) (by decide)).mono fun e w' ⟨h, g⟩ => ⟨by rw [h, k_cmp2], g⟩
theorem c_clamp (w : World) : Calls Try.prog 29 #[.float .f64 4621256167635550208, .float .f64 4607182418800017408, .float .f64 4613937818241073152] w fun e w' => e = .returned (.float .f64 4613937818241073152) ∧ w = w' :=
  (clamp_any _ _ _ w (by decide) (by decide) (by decide)).mono fun e w' ⟨h, g⟩ => ⟨by rw [h, k_clamp], g⟩
theorem c_inf (w : World) : Calls Try.prog 31 #[.int .i64 1] w fun e w' => e = .returned (.float .f64 9218868437227405312) ∧ w = w' := inf_any 1 w
theorem c_min (b cap : Nat) (w : World) (h0 : w.cell? ⟨b, 0, none⟩ = some (.float .f64 4611686018427387904)) (h1 : w.cell? ⟨b, 1, none⟩ = some (.float .f64 4607182418800017408)) :
    Calls Try.prog 25 #[.slice (some ⟨b, 0, none⟩) 2 cap] w fun e w' => e = .returned (.float .f64 4607182418800017408) ∧ w = w' := by
  have := min_any [4611686018427387904, 4607182418800017408] b 0 cap w (by decide) (by
    intro i hi
    have : i = 0 ∨ i = 1 := by simp at hi; omega
    rcases this with rfl | rfl
    · exact h0
    · exact h1) (by
    intro i hi
    have : i = 0 ∨ i = 1 := by simp at hi; omega
    rcases this with rfl | rfl <;> decide)
  exact this.mono fun e w' ⟨h, g⟩ => ⟨by rw [h, k_min], g⟩

set_option maxHeartbeats 1000000 in
theorem awake_any (w : World) : Calls Try.prog 12 #[] w fun e w' => e = .returned (.bool true) ∧ Below w.heap.size w w' := by
  have o1 : (FloatKind.f64.format.order 4609434218613702656 4609434218613702656 == some .eq) = true := by decide +kernel
  have o2 : (FloatKind.f64.format.order 4613937818241073152 4613937818241073152 == some .eq) = true := by decide +kernel
  have o3 : (FloatKind.f64.format.order 4607182418800017408 4607182418800017408 == some .eq) = true := by decide +kernel
  go_enter Try.func12, Try.ntmps12
  go_wp2_with fail
  refine (copysign_neg _).mono ?_; rintro e w' ⟨rfl, rfl⟩
  go_wp2_with fail
  refine (c_div _).mono ?_; rintro e w1 ⟨rfl, hg⟩
  go_wp2_with fail
  refine (c_whole _).mono ?_; rintro e w' ⟨rfl, rfl⟩
  go_wp2_with fail
  refine (c_cmp1 _).mono ?_; rintro e w' ⟨rfl, rfl⟩
  go_wp2_with fail
  refine (nan_any _).mono ?_; rintro e w' ⟨rfl, rfl⟩
  go_wp2_with fail
  refine (c_inf _).mono ?_; rintro e w' ⟨rfl, rfl⟩
  go_wp2_with fail
  refine (c_cmp2 _).mono ?_; rintro e w' ⟨rfl, rfl⟩
  go_wp2_with fail
  refine (c_clamp _).mono ?_; rintro e w' ⟨rfl, rfl⟩
  go_wp2_with fail
  refine (c_min _ _ _ (by go_simp) (by go_simp)).mono ?_; rintro e w' ⟨rfl, rfl⟩
  go_wp2_with fail
  go_ret
  exact ⟨rfl, hg.alloc hg.size _⟩
end Go.Proofs.Ytcccfmclcpldlaa
