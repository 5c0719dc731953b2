/-
  Contract of the reference's Ints.
-/
import Derived.Test.YtlgjfhjnfimahaaMem
import Derived.BigQuiet
namespace Go.Proofs.Ytlgjfhjnfimahaa
open Go.RowKit

def alike (a b : List Int) : Bool := decide (a = b)
theorem alike_no {a b : List Int} {k : Nat} (h : ¬ a.getD k 0 = b.getD k 0) : alike a b = false := by
  unfold alike; rw [decide_eq_false_iff_not]; intro e; exact h (by rw [e])
theorem alike_len {a b : List Int} (h : ¬ a.length = b.length) : alike a b = false := by
  unfold alike; rw [decide_eq_false_iff_not]; intro e; exact h (by rw [e])
theorem alike_yes {a b : List Int} (hl : a.length = b.length) (h : ∀ j, j < a.length → a.getD j 0 = b.getD j 0) : alike a b = true := by
  unfold alike
  rw [decide_eq_true_iff]
  refine List.ext_getElem hl fun i h1 h2 => ?_
  have := h i h1
  simpa [h1, h2] using this

theorem ints_unlike (va vb : Value) (a b : List Int) (w : World) (ha : RI w va a) (hb : RI w vb b) (hne : ¬ a.length = b.length) :
    Calls Try.prog 11 #[va, vb] w fun e w' => e = .returned (.bool false) ∧ ∃ n, w' = w.drewN n := by
  obtain ⟨p, c, rfl, h1, h2, _⟩ := ha
  obtain ⟨p2, c2, rfl, h3, h4, _⟩ := hb
  unfold maxLen at h2 h4
  generalize a.length = A at *
  generalize b.length = B at *
  go_enter Try.func11, Try.ntmps11
  go_wp2
  go_ret
  exact ⟨rfl, 0, rfl⟩

set_option maxHeartbeats 1000000 in
theorem ints_same (va vb : Value) (a b : List Int) (w : World) (ha : RI w va a) (hb : RI w vb b) (heq : a.length = b.length) :
    Calls Try.prog 11 #[va, vb] w fun e w' => e = .returned (.bool (alike a b)) ∧ ∃ n, w' = w.drewN n := by
  have HA := Lib.hid ha
  have HB := Lib.hid hb
  have HE := Lib.hid heq
  obtain ⟨p, c, rfl, h1, h2, _⟩ := ha
  obtain ⟨p2, c2, rfl, _⟩ := hb
  unfold maxLen at h2
  rw [← heq] at HB ⊢
  clear heq
  go_enter Try.func11, Try.ntmps11
  go_wp2
  go_loopw [13] (fun i wr => ∃ k n : Nat, k ≤ a.length ∧ i = .int .i64 k ∧ wr = w.drewN n ∧ ∀ j, j < k → a.getD j 0 = b.getD j 0) (fun i _ => a.length - (intOf i).toNat)
  case atStart => exact ⟨0, 0, Nat.zero_le _, rfl, rfl, fun j hj => absurd hj (Nat.not_lt_zero _)⟩
  case round =>
    obtain ⟨k, n, hk, rfl, rfl, hall⟩ := hrel
    have HALL := Lib.hid hall
    clear hall
    by_cases hlt : k < a.length
    · obtain ⟨g, o, rfl, _, hc⟩ := ri_some HA.out (by omega)
      obtain ⟨g2, o2, rfl, _, hc2⟩ := ri_some HB.out (by rw [← HE.out]; omega)
      have ca := hc k hlt
      have cb := hc2 k (by rw [← HE.out]; exact hlt)
      have hkI : (k : Int) < (a.length : Int) := by omega
      by_cases hxy : a.getD k 0 = b.getD k 0
      · have HN : Hid (∀ j, j < k + 1 → a.getD j 0 = b.getD j 0) := Lib.hid fun j hj => by
          by_cases e : j = k
          · rw [e]; exact hxy
          · exact HALL.out j (by omega)
        rw [← hxy] at cb
        generalize a.getD k 0 = y at *
        clear hc hc2 HALL hxy
        go_wp2_with fail
        go_quiet (fail)
        go_wp2
        go_roundw
        case rel => exact ⟨k + 1, _, by omega, by go_num, rfl, HN.out⟩
        case measure => simp [intOf]; omega
      · have HX := Lib.hid (alike_no hxy)
        generalize a.getD k 0 = x at *
        generalize b.getD k 0 = y at *
        clear hc hc2 HALL
        go_wp2_with fail
        go_quiet (fail)
        go_wp2
        go_ret
        exact ⟨ret_bool HX.out.symm, _, World.drewN_drewN ..⟩
    · obtain rfl : k = a.length := by omega
      have HX := Lib.hid (alike_yes HE.out HALL.out)
      go_wp2
      go_ret
      exact ⟨ret_bool HX.out.symm, _, rfl⟩

theorem ints_any (va vb : Value) (a b : List Int) (w : World) (ha : RI w va a) (hb : RI w vb b) :
    Calls Try.prog 11 #[va, vb] w fun e w' => e = .returned (.bool (alike a b)) ∧ ∃ n, w' = w.drewN n := by
  by_cases h : a.length = b.length
  · exact ints_same va vb a b w ha hb h
  · rw [alike_len h]; exact ints_unlike va vb a b w ha hb h
end Go.Proofs.Ytlgjfhjnfimahaa
