/-
  What every statement of the twenty-fourth layer asks besides: costs that every program must know.
-/
import Derived.Test.YtegbeolnlpgdeaaCos
namespace Go.Proofs.Ytegbeolnlpgdeaa
set_option maxRecDepth 100000
open Go.ChangeShapes Go.WideShapes Go.ChangeAt Go.RowKit

/-- the calls at known values -/
theorem cop_w (d o n m : Int) (p : Option Addr) (k c : Nat) (bl : List Int) (r x : Int) (hx : opC d n k r = x) (w : World) :
    Calls Try.prog 11 #[.agg (pxc ⟨d, o, n, m, .slice p k c, bl⟩), .int .i64 r] w fun e w' => e = .returned (.int .i64 x) ∧ Below w.heap.size w w' := by rw [← hx]; exact cop_is d o n m p k c bl r w
theorem clines_w (d o n m : Int) (p : Option Addr) (k c : Nat) (bl : List Int) (x : Int) (hx : lnC d n k = x) (w : World) :
    Calls Try.prog 9 #[.agg (pxc ⟨d, o, n, m, .slice p k c, bl⟩)] w fun e w' => e = .returned (.int .i64 x) ∧ Below w.heap.size w w' := by rw [← hx]; exact clines_is d o n m p k c bl w
theorem crec_w (r x : Int) (hx : recC r = x) (w : World) : Calls Try.prog 13 #[.int .i64 r] w fun e w' => e = .returned (.int .i64 x) ∧ w = w' := by rw [← hx]; exact crec_is r w

set_option maxHeartbeats 1000000 in
theorem awake_any (w : World) : Calls Try.prog 7 #[] w fun e w' => e = .returned (.bool true) ∧ Below w.heap.size w w' := by
  obtain ⟨W, hW, hst, H⟩ := px_boxed w ⟨2, 0, 0, 0, .slice none 0 0, []⟩ rfl
  have HV := Lib.hid H.out.1
  have HB := Lib.hid H.out.2
  have l0 := H.out.1.whole
  clear H
  go_enter Try.func7, Try.ntmps7
  go_wp2_with fail
  refine (cop_w 2 0 0 0 none 0 0 [] 0 36 (by decide) _).mono ?_; rintro e w1 ⟨rfl, hb⟩
  have V1 := Lib.hid (HV.out.below hb)
  have B1 := Lib.hid (below_more HB.out hb)
  have l1 := V1.out.whole
  clear hb l0
  go_wp2_with fail
  refine (cop_w 2 0 0 0 none 0 0 [] 2 44 (by decide) _).mono ?_; rintro e w2 ⟨rfl, hb⟩
  have B2 := Lib.hid (below_more B1.out hb)
  clear hb l1
  go_wp2_with fail
  refine (clines_w 1 0 64 0 none 0 0 [] 5 (by decide) _).mono ?_; rintro e w3 ⟨rfl, hb⟩
  have B3 := Lib.hid (below_more B2.out hb)
  clear hb
  go_wp2_with fail
  refine (crec_w 0 192 (by decide) _).mono ?_; rintro e w' ⟨rfl, rfl⟩
  go_wp2_with fail
  refine (cfmt_yes (l := 1) (s := 0) (p := 1) (b := 1) (by unfold May; omega) _).mono ?_; rintro e w4 ⟨rfl, hb⟩
  go_wp2_with fail
  go_ret
  exact ⟨rfl, below_more B3.out hb⟩
end Go.Proofs.Ytegbeolnlpgdeaa
