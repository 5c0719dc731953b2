/-
  Contracts of Place of the reference, over slices of words: the slots and the words together no more than 2^62.
-/
import Derived.Test.YtjfedklpmbnjcaaSpc
namespace Go.Proofs.Ytjfedklpmbnjcaa
open Go.RowKit

theorem rplace_out (p : Option Addr) (n cap : Nat) (s a : Int) (w : World) (h : ¬ (0 ≤ a ∧ a < s)) : Calls Try.prog 12 #[.slice p n cap, .int .i64 s, .int .i64 a] w fun e w' => e = .returned (.int .i64 (-1)) ∧ w = w' := by
  by_cases h0 : a < 0
  · clear h
    go_enter Try.func12, Try.ntmps12
    go_wp2_with fail
    go_ret
    exact ⟨rfl, rfl⟩
  · have h1 : a ≥ s := by omega
    clear h
    go_enter Try.func12, Try.ntmps12
    go_wp2_with fail
    go_ret
    exact ⟨rfl, rfl⟩
theorem rplace_nil (p : Option Addr) (cap : Nat) (s a : Int) (w : World) (h0 : 0 ≤ a) (h1 : a < s) : Calls Try.prog 12 #[.slice p 0 cap, .int .i64 s, .int .i64 a] w fun e w' => e = .returned (.int .i64 a) ∧ w = w' := by
  go_enter Try.func12, Try.ntmps12
  go_wp2
  go_rounds 1
  go_ret
  exact ⟨rfl, rfl⟩

set_option maxHeartbeats 400000 in
theorem rplace_some (l : List Int) (s a : Int) (b off cap : Nat) (w : World) (hm : s + l.length < 4611686018427387904) (h0 : 0 ≤ a) (h1 : a < s) (hc : ∀ i, i < l.length → w.cell? ⟨b, off + i, none⟩ = some (.int .u64 (l.getD i 0))) :
    Calls Try.prog 12 #[.slice (some ⟨b, off, none⟩) l.length cap, .int .i64 s, .int .i64 a] w fun e w' => e = .returned (.int .i64 (plT l s a l.length)) ∧ w = w' := by
  have C := Lib.hid hc
  have e1 : IntKind.u64.wrap a = a := by simp [IntKind.wrap, IntKind.signed, IntKind.bits]; omega
  have e2 : IntKind.u64.wrap (a + 1) = a + 1 := by simp [IntKind.wrap, IntKind.signed, IntKind.bits]; omega
  clear hc
  go_enter Try.func12, Try.ntmps12
  go_wp2
  go_loop [7, 20] (fun t i => ∃ k : Nat, k ≤ l.length ∧ t = .int .i64 (plT l s a k) ∧ i = .int .i64 k) (fun _ i => l.length - (intOf i).toNat)
  case atStart => exact ⟨0, Nat.zero_le _, rfl, rfl⟩
  case round =>
    obtain ⟨k, hk, rfl, rfl⟩ := hrel
    by_cases hlt : k < l.length
    · have hcell := C.out k hlt
      have e3 : IntKind.i64.wrap (s + (k : Int)) = s + (k : Int) := IntWalk.i64_in _ (by omega)
      obtain ⟨y, hy⟩ : ∃ y, l.getD k 0 = y := ⟨_, rfl⟩
      rw [hy] at hcell
      by_cases h : y = a + 1
      · have E := Lib.hid (plT_hit (s := s) (hy.trans h))
        subst h
        clear hy
        go_wp2
        go_round
        case rel => exact ⟨k + 1, by omega, by rw [E.out], by go_num⟩
        case measure => simp [intOf]; omega
      · have E := Lib.hid (plT_miss (s := s) (fun e => h (hy.symm.trans e)))
        clear hy
        go_wp2
        go_round
        case rel => exact ⟨k + 1, by omega, by rw [E.out], by go_num⟩
        case measure => simp [intOf]; omega
    · obtain rfl : k = l.length := by omega
      go_wp2
      go_ret
      exact ⟨rfl, rfl⟩

theorem rplace_any (v : Value) (l : List Int) (s a : Int) (w : World) (h : RU w v l) (hm : s + l.length < 4611686018427387904) : Calls Try.prog 12 #[v, .int .i64 s, .int .i64 a] w fun e w' => e = .returned (.int .i64 (placeT l s a)) ∧ w = w' := by
  obtain ⟨p, cap, rfl, h1, h2, h3⟩ := h
  by_cases hlt : 0 ≤ a ∧ a < s
  · rw [placeT, if_pos hlt]
    rcases h3 with rfl | ⟨b, off, rfl, hc⟩
    · exact rplace_nil p cap s a w hlt.1 hlt.2
    · exact rplace_some l s a b off cap w hm hlt.1 hlt.2 hc
  · rw [placeT, if_neg hlt]; exact rplace_out p _ cap s a w hlt
end Go.Proofs.Ytjfedklpmbnjcaa
