/-
  Contracts of slices.MinFunc and MaxFunc with package edge's order over a slice of words, and of edge.Min and edge.Max.
-/
import Derived.Test.YthcecfenjbdgmaaCmp2
namespace Go.Proofs.Ythcecfenjbdgmaa
set_option maxRecDepth 100000
open D Go.RowKit

/-- a slice of words that lie side by side in memory -/
def Words (w : World) (b off : Nat) (l : List Nat) : Prop := ∀ i, i < l.length → w.cell? ⟨b, off + i, none⟩ = some (.float .f64 (l.getD i 0))
def Small (l : List Nat) : Prop := ∀ i, i < l.length → l.getD i 0 < 2 ^ 64

def minAt (l : List Nat) : Nat → Nat
  | 0 => l.getD 0 0
  | i + 1 => if rk (l.getD (i + 1) 0) < rk (minAt l i) then l.getD (i + 1) 0 else minAt l i
def maxAt (l : List Nat) : Nat → Nat
  | 0 => l.getD 0 0
  | i + 1 => if rk (maxAt l i) < rk (l.getD (i + 1) 0) then l.getD (i + 1) 0 else maxAt l i

theorem minAt_small {l : List Nat} (h : Small l) (i : Nat) (hi : i < l.length) : minAt l i < 2 ^ 64 := by
  induction i with
  | zero => exact h 0 hi
  | succ i ih => unfold minAt; split
                 · exact h _ hi
                 · exact ih (by omega)
theorem maxAt_small {l : List Nat} (h : Small l) (i : Nat) (hi : i < l.length) : maxAt l i < 2 ^ 64 := by
  induction i with
  | zero => exact h 0 hi
  | succ i ih => unfold maxAt; split
                 · exact h _ hi
                 · exact ih (by omega)
theorem cmp3_neg (x y : Int) : decide (cmp3 x y < 0) = decide (x < y) := by
  unfold cmp3; rw [Bool.eq_iff_iff]; simp only [decide_eq_true_eq]; split
  · simp_all
  · split <;> simp_all
theorem cmp3_pos (x y : Int) : decide (0 < cmp3 x y) = decide (y < x) := by
  unfold cmp3; rw [Bool.eq_iff_iff]; simp only [decide_eq_true_eq]; split
  · simp_all; omega
  · split <;> simp_all

set_option maxHeartbeats 400000 in
theorem minFunc_any (l : List Nat) (b off cap : Nat) (w : World) (h0 : 0 < l.length) (hm : l.length ≤ maxLen) (hc : Words w b off l) (hs : Small l) :
    Calls Try.prog 44 #[.slice (some ⟨b, off, none⟩) l.length cap, .func (.func 22) #[] #[]] w fun e w' => e = .returned (.float .f64 (minAt l (l.length - 1))) ∧ w = w' := by
  unfold maxLen at hm
  have C := Lib.hid hc
  have S := Lib.hid hs
  have c0 : w.cell? ⟨b, off, none⟩ = some (.float .f64 (l.getD 0 0)) := by have := hc 0 h0; rwa [Nat.add_zero] at this
  have M0 := Lib.hid (show l.getD 0 0 = minAt l 0 from rfl)
  clear hc hs
  go_enter Try.func44, Try.ntmps44
  go_wp2
  go_loop [5, 6] (fun m i => ∃ k : Nat, k < l.length ∧ i = .int .i64 ((k : Int) + 1) ∧ m = .float .f64 (minAt l k)) (fun _ i => l.length - (intOf i).toNat)
  case atStart => exact ⟨0, h0, rfl, by simp [minAt, h0]⟩
  case round =>
    clear c0 M0
    obtain ⟨k, hk, rfl, rfl⟩ := hrel
    by_cases hlt : k + 1 < l.length
    · have hcell := C.out (k + 1) hlt
      have G := Lib.hid (cmp_any (l.getD (k + 1) 0) (minAt l k) · (S.out _ hlt) (minAt_small S.out k hk))
      have D := cmp3_neg (rk (l.getD (k + 1) 0)) (rk (minAt l k))
      by_cases hd : rk (l.getD (k + 1) 0) < rk (minAt l k)
      · rw [decide_eq_true hd] at D
        have E := Lib.hid (show l.getD (k + 1) 0 = minAt l (k + 1) by rw [minAt, if_pos hd])
        clear hd
        generalize l.getD (k + 1) 0 = x at *
        generalize minAt l k = y at *
        go_wp2_with (go_at_call 22; refine (G.out _).mono ?_; rintro e w' ⟨rfl, rfl⟩)
        go_round
        case rel => exact ⟨k + 1, hlt, by go_num, by rw [E.out]⟩
        case measure => simp [intOf]; omega
      · rw [decide_eq_false hd] at D
        have E := Lib.hid (show minAt l k = minAt l (k + 1) by rw [minAt, if_neg hd])
        clear hd
        generalize l.getD (k + 1) 0 = x at *
        generalize minAt l k = y at *
        go_wp2_with (go_at_call 22; refine (G.out _).mono ?_; rintro e w' ⟨rfl, rfl⟩)
        go_round
        case rel => exact ⟨k + 1, hlt, by go_num, by rw [E.out]⟩
        case measure => simp [intOf]; omega
    · have E := Lib.hid (show k = l.length - 1 by omega)
      go_wp2
      go_ret
      exact ⟨ret_f64 (by rw [← E.out]), rfl⟩

/-- what Min and Max tell: of none, no number -/
def minV (l : List Nat) : Nat := if l.length = 0 then 9221120237041090561 else minAt l (l.length - 1)
def maxV (l : List Nat) : Nat := if l.length = 0 then 9221120237041090561 else maxAt l (l.length - 1)

theorem min_none (p : Option Addr) (cap : Nat) (w : World) : Calls Try.prog 28 #[.slice p 0 cap] w fun e w' => e = .returned (.float .f64 9221120237041090561) ∧ w = w' := by
  go_enter Try.func28, Try.ntmps28
  go_wp2_with (go_at_call 29; refine (nan_any _).mono ?_; rintro e w' ⟨rfl, rfl⟩)
  go_ret
  exact ⟨rfl, rfl⟩

theorem min_any (l : List Nat) (b off cap : Nat) (w : World) (hm : l.length ≤ maxLen) (hc : Words w b off l) (hs : Small l) :
    Calls Try.prog 28 #[.slice (some ⟨b, off, none⟩) l.length cap] w fun e w' => e = .returned (.float .f64 (minV l)) ∧ w = w' := by
  by_cases h : l.length = 0
  · unfold minV; rw [if_pos h, h]; exact min_none _ _ _
  · have E := Lib.hid (show minV l = minAt l (l.length - 1) by unfold minV; rw [if_neg h])
    have G := Lib.hid (minFunc_any l b off cap w (by omega) hm hc hs)
    have hd : ((l.length : Int) == 0) = false := beq_eq_false_iff_ne.2 (by omega)
    clear hc hs
    go_enter Try.func28, Try.ntmps28
    go_wp2_with (go_at_call 44; refine G.out.mono ?_; rintro e w' ⟨rfl, rfl⟩)
    go_ret
    exact ⟨ret_f64 E.out.symm, rfl⟩
end Go.Proofs.Ythcecfenjbdgmaa
