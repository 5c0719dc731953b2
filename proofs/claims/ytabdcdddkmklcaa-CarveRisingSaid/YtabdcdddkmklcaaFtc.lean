/-
  Contracts of package fit: how many words bytes need, what is taken, how often a page was written, which of two is ahead.
-/
import Derived.Test.YtabdcdddkmklcaaFtp
import Derived.Test.YtabdcdddkmklcaaBka
import Derived.Test.YtabdcdddkmklcaaRi
import Derived.BigQuiet
namespace Go.Proofs.Ytabdcdddkmklcaa
set_option maxRecDepth 100000
open Go.RowKit

theorem need_is (n : Int) (w : World) : Calls Try.prog 23 #[.int .i64 n] w fun e w' => e = .returned (.int .i64 (needN n)) ∧ w = w' := by
  by_cases h1 : n < 1
  · rw [needN, if_neg (by omega)]
    go_enter Try.func23, Try.ntmps23
    go_wp2_with fail
    go_ret
    exact ⟨rfl, rfl⟩
  · by_cases h2 : n > 448
    · rw [needN, if_neg (by omega)]
      go_enter Try.func23, Try.ntmps23
      go_wp2_with fail
      go_ret
      exact ⟨rfl, rfl⟩
    · rw [needN, if_pos (by omega)]
      obtain ⟨k, rfl⟩ : ∃ k : Nat, n = k := ⟨n.toNat, by omega⟩
      have j1 : IntKind.i64.wrap ((k : Int) + 8) = ((k + 8 : Nat) : Int) := by rw [show (k : Int) + 8 = ((k + 8 : Nat) : Int) by omega]; exact i64_nat _ (by omega)
      have j2 : IntKind.i64.wrap (((k + 8 : Nat) : Int) - 1) = ((k + 7 : Nat) : Int) := by rw [show ((k + 8 : Nat) : Int) - 1 = ((k + 7 : Nat) : Int) by omega]; exact i64_nat _ (by omega)
      obtain ⟨q, hq⟩ : ∃ q, (k + 7) / 8 = q := ⟨_, rfl⟩
      have j3 : ((k + 7 : Nat) : Int).tdiv 8 = (q : Int) := by rw [← hq]; exact tdiv_nat (k + 7) 8
      have j4 : IntKind.i64.wrap (q : Int) = (q : Int) := i64_nat _ (by omega)
      have j5 : IntKind.i64.wrap ((q : Int) + 1) = ((q + 1 : Nat) : Int) := by rw [show (q : Int) + 1 = ((q + 1 : Nat) : Int) by omega]; exact i64_nat _ (by omega)
      have e : ((k : Int) + 7) / 8 + 1 = ((q + 1 : Nat) : Int) := by omega
      rw [e]
      obtain ⟨a, ha⟩ : ∃ a, k + 8 = a := ⟨_, rfl⟩
      obtain ⟨b, hb⟩ : ∃ a, k + 7 = a := ⟨_, rfl⟩
      obtain ⟨c, hc⟩ : ∃ a, q + 1 = a := ⟨_, rfl⟩
      rw [ha] at j1 j2
      rw [hb] at j2 j3
      rw [hc] at j5 ⊢
      clear ha hb hc hq e
      go_enter Try.func23, Try.ntmps23
      go_wp2_with fail
      go_ret
      exact ⟨rfl, rfl⟩

theorem takes_is (s n t : Int) (hs : (Lit.int .i64 s).wf = true) (ht : takN s n = t) (w : World) : Calls Try.prog 37 #[.int .i64 s, .int .i64 n] w fun e w' => e = .returned (.int .i64 t) ∧ w = w' := by
  obtain ⟨s1, s2⟩ := i64_wf hs
  subst ht
  clear hs
  by_cases h1 : n < 2
  · rw [takN, if_neg (by omega)]
    go_enter Try.func37, Try.ntmps37
    go_wp2_with fail
    go_ret
    exact ⟨rfl, rfl⟩
  · by_cases h2 : n > s
    · rw [takN, if_neg (by omega)]
      go_enter Try.func37, Try.ntmps37
      go_wp2_with fail
      go_ret
      exact ⟨rfl, rfl⟩
    · rw [takN, if_pos (by omega)]
      obtain ⟨d, hd⟩ : ∃ d, s - n = d := ⟨_, rfl⟩
      have j1 : IntKind.i64.wrap (s - n) = d := by rw [hd]; exact IntWalk.i64_in _ (by omega)
      rw [hd]
      clear hd s1 s2
      by_cases h3 : d < 2
      · rw [if_pos h3]
        go_enter Try.func37, Try.ntmps37
        go_wp2_with fail
        go_ret
        exact ⟨rfl, rfl⟩
      · rw [if_neg h3]
        go_enter Try.func37, Try.ntmps37
        go_wp2_with fail
        go_ret
        exact ⟨rfl, rfl⟩


end Go.Proofs.Ytabdcdddkmklcaa
