/-
  Contracts of package mean's bring, sums, greatest, by, over slices of ints.
-/
import Derived.Test.YthcecfenjbdgmaaLaw
import Derived.Test.YthcecfenjbdgmaaQuo
import Derived.Test.YthcecfenjbdgmaaCounts
import Derived.Handy
namespace Go.Proofs.Ythcecfenjbdgmaa
set_option maxRecDepth 100000
open D Go.RowKit

/-- a slice of ints that can be read: it holds l -/
def RIm (w : World) (v : Value) (l : List Int) : Prop := ∃ p cap, v = .slice p l.length cap ∧ (l = [] ∨ ∃ b off, p = some ⟨b, off, none⟩ ∧ ∀ i, i < l.length → w.cell? ⟨b, off + i, none⟩ = some (.int .i64 (l.getD i 0)))

theorem bring_any (n : Int) (w : World) : Calls Try.prog 43 #[.int .i64 n] w fun e w' => e = .returned (.int .i64 ((hn n : Nat) : Int)) ∧ w = w' := by
  have E := Lib.hid (hn_cast n)
  go_enter Try.func43, Try.ntmps43
  go_wp2
  all_goals
    go_ret
    exact ⟨ret_i64 (by have := E.out; omega), rfl⟩

theorem held_take {l : List Int} {k : Nat} (h : k < l.length) : held (l.take (k + 1)) = held (l.take k) ++ [hn (l.getD k 0)] := by
  unfold held
  rw [List.take_succ_eq_append_getElem h, List.map_append]; simp [h]
theorem S_take {l : List Int} {k : Nat} (h : k < l.length) : S (held (l.take (k + 1))) = S (held (l.take k)) + hn (l.getD k 0) := by
  rw [held_take h, S_append]; simp [S]
theorem Sq_take {l : List Int} {k : Nat} (h : k < l.length) : Sq (held (l.take (k + 1))) = Sq (held (l.take k)) + hn (l.getD k 0) * hn (l.getD k 0) := by
  rw [held_take h, Sq_append]; simp [Sq]
theorem top_take {l : List Int} {k : Nat} (h : k < l.length) : top (held (l.take (k + 1))) = max (top (held (l.take k))) (hn (l.getD k 0)) := by
  rw [held_take h]; unfold top; rw [List.foldl_append]; rfl
theorem sums_le (l : List Int) (k : Nat) (h : l.length ≤ 300) : S (held (l.take k)) ≤ 300000000 ∧ Sq (held (l.take k)) ≤ 300000000000000 := by
  have hl : (held (l.take k)).length ≤ 300 := by rw [held_length, List.length_take]; omega
  exact ⟨S_bound (held_le _) hl, Sq_bound (held_le _) hl⟩

theorem ret_ints {a b c d : Int} (h : a = c) (g : b = d) : Ending.returned (.tuple #[.int .i64 a, .int .i64 b]) = .returned (.tuple #[.int .i64 c, .int .i64 d]) := by rw [h, g]

theorem sums_nil (p : Option Addr) (cap : Nat) (w : World) : Calls Try.prog 53 #[.slice p 0 cap] w fun e w' => e = .returned (.tuple #[.int .i64 0, .int .i64 0]) ∧ w = w' := by
  go_enter Try.func53, Try.ntmps53
  go_wp2
  go_rounds 1
  go_ret2
  exact ⟨rfl, rfl⟩

set_option maxHeartbeats 400000 in
theorem sums_some (l : List Int) (b off cap : Nat) (w : World) (hl : l.length ≤ 300) (hc : ∀ i, i < l.length → w.cell? ⟨b, off + i, none⟩ = some (.int .i64 (l.getD i 0))) :
    Calls Try.prog 53 #[.slice (some ⟨b, off, none⟩) l.length cap] w fun e w' => e = .returned (.tuple #[.int .i64 ((S (held l) : Nat) : Int), .int .i64 ((Sq (held l) : Nat) : Int)]) ∧ w = w' := by
  have C := Lib.hid hc
  clear hc
  go_enter Try.func53, Try.ntmps53
  go_wp2
  go_loop [2, 3, 9] (fun s q i => ∃ k : Nat, k ≤ l.length ∧ s = .int .i64 ((S (held (l.take k)) : Nat) : Int) ∧ q = .int .i64 ((Sq (held (l.take k)) : Nat) : Int) ∧ i = .int .i64 k) (fun _ _ i => l.length - (intOf i).toNat)
  case atStart => exact ⟨0, Nat.zero_le _, rfl, rfl, rfl⟩
  case round =>
    obtain ⟨k, hk, rfl, rfl, rfl⟩ := hrel
    by_cases hlt : k < l.length
    · have hcell := C.out k hlt
      have ES := Lib.hid (S_take hlt)
      have EQ := Lib.hid (Sq_take hlt)
      obtain ⟨hs1, hs2⟩ := sums_le l k hl
      have hx := hn_le (l.getD k 0)
      have hxx : hn (l.getD k 0) * hn (l.getD k 0) ≤ 1000000000000 := Nat.mul_le_mul hx hx
      have G := Lib.hid (bring_any (l.getD k 0))
      have HM : ((hn (l.getD k 0) : Nat) : Int) * ((hn (l.getD k 0) : Nat) : Int) = ((hn (l.getD k 0) * hn (l.getD k 0) : Nat) : Int) := (Int.natCast_mul ..).symm
      generalize hn (l.getD k 0) = x at *
      generalize l.getD k 0 = y at *
      generalize S (held (l.take k)) = s at *
      generalize Sq (held (l.take k)) = q at *
      generalize x * x = z at *
      go_wp2_with (go_at_call 43; refine (G.out _).mono ?_; rintro e w' ⟨rfl, rfl⟩)
      go_round
      case rel => exact ⟨k + 1, by omega, by rw [ES.out]; go_num, by rw [EQ.out]; go_num, by go_num⟩
      case measure => simp [intOf]; omega
    · obtain rfl : k = l.length := by omega
      rw [List.take_length]
      go_wp2
      go_ret2
      exact ⟨rfl, rfl⟩

theorem greatest_nil (p : Option Addr) (cap : Nat) (w : World) : Calls Try.prog 46 #[.slice p 0 cap] w fun e w' => e = .returned (.int .i64 0) ∧ w = w' := by
  go_enter Try.func46, Try.ntmps46
  go_wp2
  go_rounds 1
  go_ret
  exact ⟨rfl, rfl⟩

set_option maxHeartbeats 400000 in
theorem greatest_some (l : List Int) (b off cap : Nat) (w : World) (hm : l.length ≤ maxLen) (hc : ∀ i, i < l.length → w.cell? ⟨b, off + i, none⟩ = some (.int .i64 (l.getD i 0))) :
    Calls Try.prog 46 #[.slice (some ⟨b, off, none⟩) l.length cap] w fun e w' => e = .returned (.int .i64 ((top (held l) : Nat) : Int)) ∧ w = w' := by
  unfold maxLen at hm
  have C := Lib.hid hc
  clear hc
  go_enter Try.func46, Try.ntmps46
  go_wp2
  go_loop [3, 8] (fun m i => ∃ k : Nat, k ≤ l.length ∧ m = .int .i64 ((top (held (l.take k)) : Nat) : Int) ∧ i = .int .i64 k) (fun _ i => l.length - (intOf i).toNat)
  case atStart => exact ⟨0, Nat.zero_le _, rfl, rfl⟩
  case round =>
    obtain ⟨k, hk, rfl, rfl⟩ := hrel
    by_cases hlt : k < l.length
    · have hcell := C.out k hlt
      have ET := Lib.hid (top_take hlt)
      have G := Lib.hid (bring_any (l.getD k 0))
      generalize hn (l.getD k 0) = x at *
      generalize l.getD k 0 = y at *
      generalize top (held (l.take k)) = s at *
      go_wp2_with (go_at_call 43; refine (G.out _).mono ?_; rintro e w' ⟨rfl, rfl⟩)
      all_goals
        go_round
        case rel => exact ⟨k + 1, by omega, by rw [ET.out]; go_num, by go_num⟩
        case measure => simp [intOf]; omega
    · obtain rfl : k = l.length := by omega
      rw [List.take_length]
      go_wp2
      go_ret
      exact ⟨rfl, rfl⟩

theorem sums_rd (v : Value) (l : List Int) (w : World) (h : RIm w v l) (hl : l.length ≤ 300) :
    Calls Try.prog 53 #[v] w fun e w' => e = .returned (.tuple #[.int .i64 ((S (held l) : Nat) : Int), .int .i64 ((Sq (held l) : Nat) : Int)]) ∧ w = w' := by
  obtain ⟨p, cap, rfl, rfl | ⟨b, off, rfl, hc⟩⟩ := h
  · exact sums_nil p cap w
  · exact sums_some l b off cap w hl hc
theorem greatest_rd (v : Value) (l : List Int) (w : World) (h : RIm w v l) (hm : l.length ≤ maxLen) :
    Calls Try.prog 46 #[v] w fun e w' => e = .returned (.int .i64 ((top (held l) : Nat) : Int)) ∧ w = w' := by
  obtain ⟨p, cap, rfl, rfl | ⟨b, off, rfl, hc⟩⟩ := h
  · exact greatest_nil p cap w
  · exact greatest_some l b off cap w hm hc

/-- a word by a word, as package mean tells it -/
def gt0 (a : Nat) : Bool := FloatKind.f64.format.order a 0 == some .gt
def byV (a b : Nat) : Nat := match divR a b with
  | some q => q
  | none => if gt0 a && decide (rung b = 0) then infW else nanW

theorem by_any (a b : Nat) (ha : a < 2 ^ 64) (hb : b < 2 ^ 64) (w : World) : Calls Try.prog 42 #[.float .f64 a, .float .f64 b] w fun e w' => e = .returned (.float .f64 (byV a b)) ∧ ∃ n, w' = w.drewN n := by
  have D := Lib.hid (div_any a b · ha hb)
  have z := zero_eq b
  have g : (FloatKind.f64.format.order a 0 == some .gt) = gt0 a := rfl
  clear ha hb
  cases hq : divR a b with
  | some q =>
    have e1 : divV a b = q := by unfold divV; rw [hq]; rfl
    have e2 : divB a b = true := by unfold divB; rw [hq]; rfl
    have E := Lib.hid (show byV a b = q by unfold byV; rw [hq])
    rw [e1, e2] at D
    clear hq e1 e2 z g
    go_enter Try.func42, Try.ntmps42
    go_wp2_with fail
    refine (D.out _).mono ?_; rintro e w' ⟨rfl, n, rfl⟩
    go_wp2_with fail
    go_ret
    exact ⟨ret_f64 E.out.symm, n, rfl⟩
  | none =>
    have e1 : divV a b = 0 := by unfold divV; rw [hq]; rfl
    have e2 : divB a b = false := by unfold divB; rw [hq]; rfl
    have E := Lib.hid (show byV a b = if gt0 a && decide (rung b = 0) then infW else nanW by unfold byV; rw [hq])
    rw [e1, e2] at D
    clear hq e1 e2
    cases h1 : gt0 a <;> cases h2 : decide (rung b = 0) <;> rw [h1, h2] at E <;> rw [h1] at g <;> rw [h2] at z <;> clear h1 h2
    all_goals
      go_enter Try.func42, Try.ntmps42
      go_wp2_with fail
      refine (D.out _).mono ?_; rintro e w' ⟨rfl, n, rfl⟩
      go_wp2_with (first | (go_at_call 29; refine (nan_any _).mono ?_; rintro e w' ⟨rfl, rfl⟩) | (go_at_call 24; refine (inf_any _ _).mono ?_; rintro e w' ⟨rfl, rfl⟩))
      go_ret
      exact ⟨ret_f64 (by rw [E.out]; rfl), n, rfl⟩
end Go.Proofs.Ythcecfenjbdgmaa
