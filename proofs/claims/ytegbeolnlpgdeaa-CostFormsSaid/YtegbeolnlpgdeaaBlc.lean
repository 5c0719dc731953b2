/-
  Headers of blocks: contracts of package block's functions and of the reference's of the same.
-/
import Derived.Test.YtegbeolnlpgdeaaLaw
import Derived.Laws.BitsAllLaws
import Derived.Deep.RegionHeld3
import Derived.Deep.Draws
import Derived.OwnWalk
namespace Go.Proofs.Ytegbeolnlpgdeaa
set_option maxRecDepth 100000
open Go.RowKit

/-- a block may be of that size -/
def MayB (n : Int) : Prop := 2 ≤ n ∧ n ≤ 512
instance (n : Int) : Decidable (MayB n) := inferInstanceAs (Decidable (_ ∧ _))
/-- one, if used -/
def useB (u : Bool) : Int := if u then 1 else 0
/-- the header of a block -/
def hdB (n : Int) (u : Bool) : Int := if MayB n then n * 2 + useB u else 0
theorem hdB_yes {n : Int} {u : Bool} (h : MayB n) : hdB n u = n * 2 + useB u := if_pos h
theorem hdB_no {n : Int} {u : Bool} (h : ¬ MayB n) : hdB n u = 0 := if_neg h
theorem useB_or (u : Bool) : u = true ∧ useB u = 1 ∨ u = false ∧ useB u = 0 := by cases u <;> simp [useB]

theorem and1 (w : Int) (h0 : 0 ≤ w) (h1 : w ≤ 18446744073709551615) : bits .and .u64 w 1 = w % 2 := by
  rw [u64_and _ _ (by omega) (by omega) (by omega) (by omega)]
  have e : w.toNat &&& (1 : Int).toNat = w.toNat % 2 := Nat.and_two_pow_sub_one_eq_mod _ 1
  rw [e]; omega
theorem or1 (n : Int) (h0 : 0 ≤ n) (h1 : n ≤ 512) : bits .or .u64 (n * 2) 1 = n * 2 + 1 := by
  rw [u64_or _ _ (by omega) (by omega) (by omega) (by omega)]
  have e : (n * 2).toNat ||| (1 : Int).toNat = (n * 2).toNat + 1 := nat_join1 _ 1 (by omega) (by omega)
  rw [e]; omega

theorem rmayb_yes (n : Int) (h : MayB n) (w : World) : Calls Try.prog 40 #[.int .i64 n] w fun e w' => e = .returned (.bool true) ∧ w = w' := by
  obtain ⟨h1, h2⟩ := h
  have h3 : n ≥ 2 := h1
  go_enter Try.func40, Try.ntmps40
  go_wp2_with fail
  go_ret
  exact ⟨rfl, rfl⟩
theorem rmayb_no (n : Int) (h : ¬ MayB n) (w : World) : Calls Try.prog 40 #[.int .i64 n] w fun e w' => e = .returned (.bool false) ∧ w = w' := by
  by_cases h1 : n ≥ 2
  · have h2 : ¬ n ≤ 512 := fun k => h ⟨h1, k⟩
    clear h
    go_enter Try.func40, Try.ntmps40
    go_wp2_with fail
    go_ret
    exact ⟨rfl, rfl⟩
  · clear h
    go_enter Try.func40, Try.ntmps40
    go_wp2_with fail
    go_ret
    exact ⟨rfl, rfl⟩
theorem rmayb_is (n : Int) (w : World) : Calls Try.prog 40 #[.int .i64 n] w fun e w' => e = .returned (.bool (decide (MayB n))) ∧ w = w' := by
  by_cases h : MayB n
  · rw [decide_eq_true h]; exact rmayb_yes n h w
  · rw [decide_eq_false h]; exact rmayb_no n h w
theorem rwordb_no (n : Int) (u : Bool) (h : ¬ MayB n) (w : World) : Calls Try.prog 29 #[.int .i64 n, .bool u] w fun e w' => e = .returned (.int .u64 0) ∧ w = w' := by
  go_enter Try.func29, Try.ntmps29
  go_wp2_with fail
  refine (rmayb_no n h w).mono ?_; rintro e w' ⟨rfl, rfl⟩
  go_wp2_with fail
  go_ret
  exact ⟨rfl, rfl⟩
theorem rwordb_yes (n : Int) (u : Bool) (h : MayB n) (w : World) : Calls Try.prog 29 #[.int .i64 n, .bool u] w fun e w' => e = .returned (.int .u64 (n * 2 + useB u)) ∧ w = w' := by
  have C := Lib.hid (rmayb_yes n h w)
  obtain ⟨h1, h2⟩ := h
  have e1 : IntKind.u64.wrap n = n := by rw [IntKind.wrap_u64]; omega
  have e2 : IntKind.u64.wrap (n * 2) = n * 2 := by rw [IntKind.wrap_u64]; omega
  have e3 : bits .or .u64 (n * 2) 1 = n * 2 + 1 := or1 n (by omega) h2
  clear h1 h2
  cases u
  · rw [show n * 2 + useB false = n * 2 from by simp [useB]]
    go_enter Try.func29, Try.ntmps29
    go_wp2_with fail
    refine (C.out).mono ?_; rintro e w' ⟨rfl, rfl⟩
    go_wp2_with fail
    go_ret
    exact ⟨rfl, rfl⟩
  · rw [show n * 2 + useB true = n * 2 + 1 from rfl]
    go_enter Try.func29, Try.ntmps29
    go_wp2_with fail
    refine (C.out).mono ?_; rintro e w' ⟨rfl, rfl⟩
    go_wp2_with fail
    go_ret
    exact ⟨rfl, rfl⟩
theorem rwordb_is (n : Int) (u : Bool) (w : World) : Calls Try.prog 29 #[.int .i64 n, .bool u] w fun e w' => e = .returned (.int .u64 (hdB n u)) ∧ w = w' := by
  by_cases h : MayB n
  · rw [hdB_yes h]; exact rwordb_yes n u h w
  · rw [hdB_no h]; exact rwordb_no n u h w

theorem rparse_no (x : Int) (_ : 0 ≤ x) (_ : x ≤ 18446744073709551615) (h : ¬ MayB (x / 2)) (w : World) :
    Calls Try.prog 41 #[.int .u64 x] w fun e w' => e = .returned (.tuple #[.int .i64 0, .bool false, .bool false]) ∧ w = w' := by
  by_cases h1 : x / 2 < 2
  · clear h
    go_enter Try.func41, Try.ntmps41
    go_wp2
    go_ret3
    exact ⟨rfl, rfl⟩
  · have h2 : x / 2 > 512 := by unfold MayB at h; omega
    clear h
    go_enter Try.func41, Try.ntmps41
    go_wp2
    go_ret3
    exact ⟨rfl, rfl⟩
theorem rparse_yes (x : Int) (h0 : 0 ≤ x) (h1 : x ≤ 18446744073709551615) (h : MayB (x / 2)) (u : Bool) (hu : decide (x % 2 = 1) = u) (w : World) :
    Calls Try.prog 41 #[.int .u64 x] w fun e w' => e = .returned (.tuple #[.int .i64 (x / 2), .bool u, .bool true]) ∧ w = w' := by
  have e1 : IntKind.i64.wrap (x / 2) = x / 2 := IntWalk.i64_in _ (by omega)
  have e2 : bits .and .u64 x 1 = x % 2 := and1 x h0 h1
  have e3 : (x % 2 == 1) = u := by rw [← hu]; rfl
  have h2 : ¬ x / 2 < 2 := by unfold MayB at h; omega
  have h3 : ¬ x / 2 > 512 := by unfold MayB at h; omega
  clear h0 h1 hu h
  go_enter Try.func41, Try.ntmps41
  go_wp2
  go_ret3
  exact ⟨rfl, rfl⟩

/-- a word is read as size n, use u, header or not c -/
def Reads (x n : Int) (u c : Bool) : Prop :=
  c = true ∧ MayB n ∧ x = n * 2 + useB u ∨ c = false ∧ n = 0 ∧ u = false ∧ ¬ MayB (x / 2)
theorem reads_some (x : Int) : ∃ n u c, Reads x n u c := by
  by_cases h : MayB (x / 2)
  · refine ⟨x / 2, decide (x % 2 = 1), true, .inl ⟨rfl, h, ?_⟩⟩
    by_cases c : x % 2 = 1
    · rw [decide_eq_true c]; simp only [useB, if_true]; omega
    · rw [decide_eq_false c]; simp [useB]; omega
  · exact ⟨0, false, false, .inr ⟨rfl, rfl, rfl, h⟩⟩
theorem reads_half {x n : Int} {u c : Bool} (h : Reads x n u c) (hc : c = true) : MayB n ∧ x = n * 2 + useB u ∧ x / 2 = n ∧ decide (x % 2 = 1) = u := by
  rcases h with ⟨_, h, e⟩ | ⟨e, _⟩
  · refine ⟨h, e, ?_, ?_⟩
    · rcases useB_or u with ⟨_, k⟩ | ⟨_, k⟩ <;> omega
    · rcases useB_or u with ⟨e2, k⟩ | ⟨e2, k⟩ <;> subst e2 <;> simp <;> omega
  · rw [hc] at e; cases e
theorem rparse_is (x n : Int) (u c : Bool) (hr : Reads x n u c) (h0 : 0 ≤ x) (h1 : x ≤ 18446744073709551615) (w : World) :
    Calls Try.prog 41 #[.int .u64 x] w fun e w' => e = .returned (.tuple #[.int .i64 n, .bool u, .bool c]) ∧ w = w' := by
  by_cases hc : c = true
  · obtain ⟨a, b, d, e⟩ := reads_half hr hc
    subst hc
    rw [← d] at a ⊢
    exact rparse_yes x h0 h1 a u e w
  · rcases hr with ⟨e, _⟩ | ⟨rfl, rfl, rfl, h⟩
    · exact absurd e hc
    · exact rparse_no x h0 h1 h w

end Go.Proofs.Ytegbeolnlpgdeaa
