/-
  Headers of blocks: contracts of package block's functions and of the reference's of the same.
-/
import Derived.Test.YtdnijdbhdlengaaLaw
import Derived.Laws.BitsAllLaws
import Derived.Deep.RegionHeld3
import Derived.Deep.Draws
import Derived.OwnWalk
namespace Go.Proofs.Ytdnijdbhdlengaa
set_option maxRecDepth 100000
open Go.RowKit

/-- a block may be of that size -/
def MayB (n : Int) : Prop := 2 ≤ n ∧ n ≤ 512
instance (n : Int) : Decidable (MayB n) := inferInstanceAs (Decidable (_ ∧ _))
/-- one, if used -/
def useB (u : Bool) : Int := if u then 1 else 0
/-- the header of a block -/
def hdB (n : Int) (u : Bool) : Int := if MayB n then n * 2 + useB u else 0
theorem hdB_yes {n : Int} {u : Bool} (h : MayB n) : hdB n u = n * 2 + useB u := if_pos h
theorem hdB_no {n : Int} {u : Bool} (h : ¬ MayB n) : hdB n u = 0 := if_neg h
theorem useB_or (u : Bool) : u = true ∧ useB u = 1 ∨ u = false ∧ useB u = 0 := by cases u <;> simp [useB]

theorem and1 (w : Int) (h0 : 0 ≤ w) (h1 : w ≤ 18446744073709551615) : bits .and .u64 w 1 = w % 2 := by
  rw [u64_and _ _ (by omega) (by omega) (by omega) (by omega)]
  have e : w.toNat &&& (1 : Int).toNat = w.toNat % 2 := Nat.and_two_pow_sub_one_eq_mod _ 1
  rw [e]; omega
theorem or1 (n : Int) (h0 : 0 ≤ n) (h1 : n ≤ 512) : bits .or .u64 (n * 2) 1 = n * 2 + 1 := by
  rw [u64_or _ _ (by omega) (by omega) (by omega) (by omega)]
  have e : (n * 2).toNat ||| (1 : Int).toNat = (n * 2).toNat + 1 := nat_join1 _ 1 (by omega) (by omega)
  rw [e]; omega



/-- a word is read as size n, use u, header or not c -/
def Reads (x n : Int) (u c : Bool) : Prop :=
  c = true ∧ MayB n ∧ x = n * 2 + useB u ∨ c = false ∧ n = 0 ∧ u = false ∧ ¬ MayB (x / 2)
theorem reads_some (x : Int) : ∃ n u c, Reads x n u c := by
  by_cases h : MayB (x / 2)
  · refine ⟨x / 2, decide (x % 2 = 1), true, .inl ⟨rfl, h, ?_⟩⟩
    by_cases c : x % 2 = 1
    · rw [decide_eq_true c]; simp only [useB, if_true]; omega
    · rw [decide_eq_false c]; simp [useB]; omega
  · exact ⟨0, false, false, .inr ⟨rfl, rfl, rfl, h⟩⟩
theorem reads_half {x n : Int} {u c : Bool} (h : Reads x n u c) (hc : c = true) : MayB n ∧ x = n * 2 + useB u ∧ x / 2 = n ∧ decide (x % 2 = 1) = u := by
  rcases h with ⟨_, h, e⟩ | ⟨e, _⟩
  · refine ⟨h, e, ?_, ?_⟩
    · rcases useB_or u with ⟨_, k⟩ | ⟨_, k⟩ <;> omega
    · rcases useB_or u with ⟨e2, k⟩ | ⟨e2, k⟩ <;> subst e2 <;> simp <;> omega
  · rw [hc] at e; cases e

end Go.Proofs.Ytdnijdbhdlengaa
