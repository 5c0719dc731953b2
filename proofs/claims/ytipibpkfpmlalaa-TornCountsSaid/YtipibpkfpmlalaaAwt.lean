/-
  Contract of 'awake' of layer 4's statements.
-/
import Derived.Test.YtipibpkfpmlalaaRmk
namespace Go.Proofs.Ytipibpkfpmlalaa
open Go.RowKit

set_option maxHeartbeats 1000000 in
theorem awake_any (w : World) : Calls Try.prog 12 #[] w fun e w' => e = .returned (.bool true) ∧ Below w.heap.size w w' := by
  obtain ⟨W, hW, H⟩ := boxed2 w (a := [1, 2, 3, 0, 0, 0, 0, 0]) (b := [9, 9, 9, 0, 0, 0, 0, 0]) rfl rfl
  have l0 := H.out.1.load
  have l1 := H.out.2.1.load
  go_enter Try.func12, Try.ntmps12
  go_wp2_with fail
  refine (mix_is (x := [1, 9, 3, 0, 0, 0, 0, 0]) (by decide) W rfl rfl).mono ?_; rintro e w1 ⟨rfl, hb⟩
  have B1 := Lib.hid (below_more H.out.2.2 hb)
  obtain ⟨W2, hW2, H2⟩ := boxed1 w1 (a := [1, 9, 3, 0, 0, 0, 0, 0]) rfl
  have K := Lib.hid ((H.out.1.below hb).below H2.out.2)
  have K1 := Lib.hid ((H.out.2.1.below hb).below H2.out.2)
  have B2 := Lib.hid (below_more B1.out H2.out.2)
  clear hb l0 l1 hW H B1
  have l0 := K.out.load
  have l1 := K1.out.load
  have l2 := H2.out.1.load
  have hs : ([1, 9, 3, 0, 0, 0, 0, 0] == [1, 9, 3, 0, 0, 0, 0, (0 : Int)]) = true := by decide
  go_wp2_with fail
  refine (could_is (B := true) (by decide) W2 rfl rfl rfl).mono ?_; rintro e w3 ⟨rfl, hb⟩
  have B3 := Lib.hid (below_more B2.out hb)
  have M0 := Lib.hid (K.out.below hb)
  have M1 := Lib.hid (K1.out.below hb)
  have M2 := Lib.hid (H2.out.1.below hb)
  clear l0 l1 l2 hb
  have l0 := M0.out.load
  have l1 := M1.out.load
  go_wp2_with fail
  refine (could_is (B := false) (by decide) w3 rfl rfl rfl).mono ?_; rintro e w4 ⟨rfl, hb⟩
  have B4 := Lib.hid (below_more B3.out hb)
  clear l0 l1
  have l0 := (M0.out.below hb).load
  have l1 := (M1.out.below hb).load
  have l2 := (M2.out.below hb).load
  clear hb
  go_wp2_with fail
  refine (masks_is (n := 32) (by decide) w4 rfl rfl rfl).mono ?_; rintro e w5 ⟨rfl, hb⟩
  have B5 := Lib.hid (below_more B4.out hb)
  clear l0 l1 l2 hb
  go_wp2_with fail
  go_ret
  exact ⟨rfl, B5.out⟩
end Go.Proofs.Ytipibpkfpmlalaa
