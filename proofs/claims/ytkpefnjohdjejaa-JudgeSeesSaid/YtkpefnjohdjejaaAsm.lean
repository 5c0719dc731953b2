/-
  Are two answers alike (the reference's SameAns).
-/
import Derived.Test.YtkpefnjohdjejaaAns
namespace Go.Proofs.Ytkpefnjohdjejaa
set_option maxRecDepth 100000
open Go.ChangeShapes Go.WideShapes Go.ChangeAt Go.RowKit

set_option maxHeartbeats 1000000 in
theorem rsame_is {w : World} {e o e' o' : Int} {v v' : Value} {l l' : List Int} (hv : RA byE w v l) (hv' : RA byE w v' l') :
    Calls Try.prog 27 #[.agg (anc e o v), .agg (anc e' o' v')] w fun f w' => f = .returned (.bool (decide (e = e' ∧ o = o' ∧ l = l'))) ∧ Below w.heap.size w w' := by
  obtain ⟨W0, hW0⟩ : ∃ W0, w.alloc (.cells (anc e o v) 36) = W0 := ⟨_, rfl⟩
  obtain ⟨W, hW⟩ : ∃ W, W0.alloc (.cells (anc e' o' v') 36) = W := ⟨_, rfl⟩
  have s0 : W0.heap.size = w.heap.size + 1 := by rw [← hW0, size_alloc]
  have B0 : Below w.heap.size w W0 := by rw [← hW0]; exact bal (Below.refl _ _)
  have B1 : Below W0.heap.size W0 W := by rw [← hW]; exact bal (Below.refl _ _)
  have HB := Lib.hid (below_more B0 B1)
  have A0 : Anv W w.heap.size e o v := by
    have : Anv W0 w.heap.size e o v := by rw [← hW0]; exact Anv.new w e o v
    exact this.below B1
  have A1 : Anv W (w.heap.size + 1) e' o' v' := by rw [← s0, ← hW]; exact Anv.new W0 e' o' v'
  have c0 := A0.c0
  have c1 := A0.c1
  have c2 := A0.c2
  have d0 := A1.c0
  have d1 := A1.c1
  have d2 := A1.c2
  have hs := run_strConv (ra_below hv HB.out)
  have hs' := run_strConv (ra_below hv' HB.out)
  have HI' : Hid ((strOfNums l).toList = (strOfNums l').toList → l = l') := Lib.hid (strOf_inj (fun x hx => ra_ok hv x hx) (fun x hx => ra_ok hv' x hx))
  obtain ⟨q, c, hvv, _⟩ := ra_shape hv
  obtain ⟨q', c', hvv', _⟩ := ra_shape hv'
  subst hvv hvv'
  by_cases h0 : e = e'
  · subst h0
    by_cases h1 : o = o'
    · subst h1
      by_cases h2 : l = l'
      · subst h2
        have hd : decide (e = e ∧ o = o ∧ l = l) = true := by simp
        rw [hd]
        generalize strOfNums l = sl at *
        generalize l.length = n at *
        clear hv hv' B0 B1 A0 A1 HI'
        go_enter Try.func27, Try.ntmps27
        go_wp2_with fail
        go_ret
        exact ⟨by simp, HB.out⟩
      · have hd : decide (e = e ∧ o = o ∧ l = l') = false := by simp [h2]
        rw [hd]
        have hne : ¬ (strOfNums l).toList = (strOfNums l').toList := fun q => h2 (HI'.out q)
        generalize strOfNums l = sl at *
        generalize strOfNums l' = sl' at *
        generalize l.length = n at *
        generalize l'.length = n' at *
        clear hv hv' B0 B1 A0 A1 HI' h2
        go_enter Try.func27, Try.ntmps27
        go_wp2_with fail
        go_ret
        exact ⟨by simp [hne], HB.out⟩
    · have hd : decide (e = e ∧ o = o' ∧ l = l') = false := by simp [h1]
      rw [hd]
      have i1 : (o == o') = false := beq_eq_false_iff_ne.2 h1
      generalize l.length = n at *
      generalize l'.length = n' at *
      clear hv hv' B0 B1 A0 A1 HI' hs hs'
      go_enter Try.func27, Try.ntmps27
      go_wp2_with fail
      go_ret
      exact ⟨by simp, HB.out⟩
  · have hd : decide (e = e' ∧ o = o' ∧ l = l') = false := by simp [h0]
    rw [hd]
    have i1 : (e == e') = false := beq_eq_false_iff_ne.2 h0
    generalize l.length = n at *
    generalize l'.length = n' at *
    clear hv hv' B0 B1 A0 A1 HI' hs hs'
    go_enter Try.func27, Try.ntmps27
    go_wp2_with fail
    go_ret
    exact ⟨by simp, HB.out⟩
end Go.Proofs.Ytkpefnjohdjejaa
