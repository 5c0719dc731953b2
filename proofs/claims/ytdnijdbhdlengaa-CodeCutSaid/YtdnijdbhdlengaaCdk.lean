/-
  Contracts of the reference: are operations alike.
-/
import Derived.Test.YtdnijdbhdlengaaCdo
import Derived.Deep.RegionHeld3
import Derived.BigQuiet
namespace Go.Proofs.Ytdnijdbhdlengaa
set_option maxRecDepth 100000
open Go.RowKit

instance (x y : Cx) : Decidable (x = y) := by
  cases x; cases y
  rw [Cx.mk.injEq]
  infer_instance
set_option maxHeartbeats 2000000 in
theorem sameop_w {w : World} (d o n m : Int) (p : Option Addr) (c : Nat) (bl : List Int) (d2 o2 n2 m2 : Int) (p2 : Option Addr) (c2 : Nat) (bl2 : List Int) (hv : RA byE w (.slice p bl.length c) bl) (hv' : RA byE w (.slice p2 bl2.length c2) bl2) :
    Calls Try.prog 16 #[.agg (pxc ⟨d, o, n, m, .slice p bl.length c, bl⟩), .agg (pxc ⟨d2, o2, n2, m2, .slice p2 bl2.length c2, bl2⟩)] w fun f w' => f = .returned (.bool (decide (toC ⟨d, o, n, m, .slice p bl.length c, bl⟩ = toC ⟨d2, o2, n2, m2, .slice p2 bl2.length c2, bl2⟩))) ∧ Below w.heap.size w w' := by
  obtain ⟨W0, hW0⟩ : ∃ W0, w.alloc (.cells (pxc ⟨d, o, n, m, .slice p bl.length c, bl⟩) 26) = W0 := ⟨_, rfl⟩
  obtain ⟨W, hW⟩ : ∃ W, W0.alloc (.cells (pxc ⟨d2, o2, n2, m2, .slice p2 bl2.length c2, bl2⟩) 26) = W := ⟨_, rfl⟩
  have s0 : W0.heap.size = w.heap.size + 1 := by rw [← hW0, size_alloc]
  have B0 : Below w.heap.size w W0 := by rw [← hW0]; exact bal (Below.refl _ _)
  have B1 : Below W0.heap.size W0 W := by rw [← hW]; exact bal (Below.refl _ _)
  have HB := Lib.hid (below_more B0 B1)
  have A0 : Pxv W w.heap.size ⟨d, o, n, m, .slice p bl.length c, bl⟩ := by
    have : Pxv W0 w.heap.size ⟨d, o, n, m, .slice p bl.length c, bl⟩ := by rw [← hW0]; exact Pxv.new w _
    exact this.below B1
  have A1 : Pxv W (w.heap.size + 1) ⟨d2, o2, n2, m2, .slice p2 bl2.length c2, bl2⟩ := by rw [← s0, ← hW]; exact Pxv.new W0 _
  have x0 := A0.c0
  have x1 := A0.c1
  have x2 := A0.c2
  have x3 : W.cell? ⟨w.heap.size, 3, none⟩ = some (.int .i64 m) := Whole.at_ A0 3
  have x4 := A0.c4
  have y0 := A1.c0
  have y1 := A1.c1
  have y2 := A1.c2
  have y3 : W.cell? ⟨w.heap.size + 1, 3, none⟩ = some (.int .i64 m2) := Whole.at_ A1 3
  have y4 := A1.c4
  have hs := run_strConv (ra_below hv HB.out)
  have hs' := run_strConv (ra_below hv' HB.out)
  have HI : Hid ((strOfNums bl).toList = (strOfNums bl2).toList → bl = bl2) := Lib.hid (strOf_inj (fun x hx => ra_ok hv x hx) (fun x hx => ra_ok hv' x hx))
  dsimp only at x0 x1 x2 x4 y0 y1 y2 y4
  clear A0 A1 B0 B1 hv hv'
  by_cases h0 : d = d2
  · subst h0
    by_cases h1 : o = o2
    · subst h1
      by_cases h2 : n = n2
      · subst h2
        by_cases h3 : m = m2
        · subst h3
          by_cases h4 : bl = bl2
          · subst h4
            have e : decide (toC ⟨d, o, n, m, .slice p bl.length c, bl⟩ = toC ⟨d, o, n, m, .slice p2 bl.length c2, bl⟩) = true := decide_eq_true rfl
            rw [e]
            generalize strOfNums bl = sl at *
            generalize bl.length = N at *
            clear HI e
            go_enter Try.func16, Try.ntmps16
            go_wp2_with fail
            go_ret
            exact ⟨by simp, HB.out⟩
          · have e : decide (toC ⟨d, o, n, m, .slice p bl.length c, bl⟩ = toC ⟨d, o, n, m, .slice p2 bl2.length c2, bl2⟩) = false := decide_eq_false (fun q => h4 (by injection q))
            rw [e]
            have hne : ¬ (strOfNums bl).toList = (strOfNums bl2).toList := fun q => h4 (HI.out q)
            generalize strOfNums bl = sl at *
            generalize strOfNums bl2 = sl2 at *
            generalize bl.length = N at *
            generalize bl2.length = N2 at *
            clear HI e h4
            go_enter Try.func16, Try.ntmps16
            go_wp2_with fail
            go_ret
            exact ⟨by simp [hne], HB.out⟩
        · have e : decide (toC ⟨d, o, n, m, .slice p bl.length c, bl⟩ = toC ⟨d, o, n, m2, .slice p2 bl2.length c2, bl2⟩) = false := decide_eq_false (fun q => h3 (by injection q))
          rw [e]
          have i1 : (m == m2) = false := beq_eq_false_iff_ne.2 h3
          generalize bl.length = N at *
          generalize bl2.length = N2 at *
          clear HI e hs hs'
          go_enter Try.func16, Try.ntmps16
          go_wp2_with fail
          go_ret
          exact ⟨by simp, HB.out⟩
      · have e : decide (toC ⟨d, o, n, m, .slice p bl.length c, bl⟩ = toC ⟨d, o, n2, m2, .slice p2 bl2.length c2, bl2⟩) = false := decide_eq_false (fun q => h2 (by injection q))
        rw [e]
        have i1 : (n == n2) = false := beq_eq_false_iff_ne.2 h2
        generalize bl.length = N at *
        generalize bl2.length = N2 at *
        clear HI e hs hs'
        go_enter Try.func16, Try.ntmps16
        go_wp2_with fail
        go_ret
        exact ⟨by simp, HB.out⟩
    · have e : decide (toC ⟨d, o, n, m, .slice p bl.length c, bl⟩ = toC ⟨d, o2, n2, m2, .slice p2 bl2.length c2, bl2⟩) = false := decide_eq_false (fun q => h1 (by injection q))
      rw [e]
      have i1 : (o == o2) = false := beq_eq_false_iff_ne.2 h1
      generalize bl.length = N at *
      generalize bl2.length = N2 at *
      clear HI e hs hs'
      go_enter Try.func16, Try.ntmps16
      go_wp2_with fail
      go_ret
      exact ⟨by simp, HB.out⟩
  · have e : decide (toC ⟨d, o, n, m, .slice p bl.length c, bl⟩ = toC ⟨d2, o2, n2, m2, .slice p2 bl2.length c2, bl2⟩) = false := decide_eq_false (fun q => h0 (by injection q))
    rw [e]
    have i1 : (d == d2) = false := beq_eq_false_iff_ne.2 h0
    generalize bl.length = N at *
    generalize bl2.length = N2 at *
    clear HI e hs hs'
    go_enter Try.func16, Try.ntmps16
    go_wp2_with fail
    go_ret
    exact ⟨by simp, HB.out⟩
theorem sameop_is {w : World} {x y : Px} (hv : RA byE w x.v x.bl) (hv' : RA byE w y.v y.bl) :
    Calls Try.prog 16 #[.agg (pxc x), .agg (pxc y)] w fun f w' => f = .returned (.bool (decide (toC x = toC y))) ∧ Below w.heap.size w w' := by
  obtain ⟨d, o, n, m, v, bl⟩ := x
  obtain ⟨d2, o2, n2, m2, v2, bl2⟩ := y
  dsimp only at hv hv'
  obtain ⟨p, c, rfl, _⟩ := ra_shape hv
  obtain ⟨p2, c2, rfl, _⟩ := ra_shape hv'
  exact sameop_w d o n m p c bl d2 o2 n2 m2 p2 c2 bl2 hv hv'
end Go.Proofs.Ytdnijdbhdlengaa
