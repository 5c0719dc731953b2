/-
  What every statement of layer 6 asks besides: tables that every program must know.
-/
import Derived.Test.YtjfedklpmbnjcaaSpm
import Derived.Test.YtjfedklpmbnjcaaSpr
import Derived.Test.YtjfedklpmbnjcaaSpb
namespace Go.Proofs.Ytjfedklpmbnjcaa
open Go.RowKit

theorem k_may : mayT [3, 0] 5 = true := by decide
theorem k_pl2 : placeT [3, 0] 5 2 = 5 := by decide
theorem k_pl1 : placeT [3, 0] 5 1 = 1 := by decide
theorem k_next : nextT [3, 0] = 1 := by decide
theorem k_left : leftT [3, 0] = 1 := by decide
theorem k_dead : deadT 5 = 6 := by decide

set_option maxHeartbeats 1000000 in
theorem awake_any (w : World) : Calls Try.prog 8 #[] w fun e w' => e = .returned (.bool true) ∧ Below w.heap.size w w' := by
  obtain ⟨W, hW⟩ : ∃ W, w.alloc (.cells #[.int .u64 3, .int .u64 0] 24) = W := ⟨_, rfl⟩
  have R := (own_lit_u w [3, 0] (by unfold maxLen; decide)).ru
  have B0 : Below w.heap.size w W := by rw [← hW]; exact bal (Below.refl _ _)
  have hR : RU W (.slice (some ⟨w.heap.size, 0, none⟩) 2 2) [3, 0] := by rw [← hW]; exact R
  have C1 := Lib.hid (may_any _ _ 5 W hR (by decide))
  have C2 := Lib.hid (place_any _ _ 5 2 W hR (by decide))
  rw [k_may] at C1
  rw [k_pl2] at C2
  have HB := Lib.hid B0
  have HR := Lib.hid hR
  clear R B0 hR
  go_enter Try.func8, Try.ntmps8
  go_wp2_with fail
  refine (C1.out).mono ?_; rintro e w' ⟨rfl, rfl⟩
  go_wp2_with fail
  refine (C2.out).mono ?_; rintro e w1 ⟨rfl, h1⟩
  have R1 := ru_below HR.out h1
  have C3 := Lib.hid (place_any _ _ 5 1 w1 R1 (by decide))
  rw [k_pl1] at C3
  have HR1 := Lib.hid R1
  have HB1 := Lib.hid (below_more HB.out h1)
  clear h1 R1
  go_wp2_with fail
  refine (C3.out).mono ?_; rintro e w2 ⟨rfl, h2⟩
  have R2 := ru_below HR1.out h2
  have C4 := Lib.hid (next_any _ _ w2 R2)
  have C5 := Lib.hid (left_any _ _ w2 R2)
  have C6 := Lib.hid (dead_any 5 w2 (by decide))
  rw [k_next] at C4
  rw [k_left] at C5
  rw [k_dead] at C6
  have HB2 := Lib.hid (below_more HB1.out h2)
  clear h2 R2
  go_wp2_with fail
  refine (C4.out).mono ?_; rintro e w' ⟨rfl, rfl⟩
  go_wp2_with fail
  refine (C5.out).mono ?_; rintro e w' ⟨rfl, rfl⟩
  go_wp2_with fail
  refine (C6.out).mono ?_; rintro e w' ⟨rfl, rfl⟩
  go_wp2
  go_ret
  exact ⟨rfl, HB2.out⟩
end Go.Proofs.Ytjfedklpmbnjcaa
