/-
  Contracts of package spare's May, Dead, word, line, Next, Left and of the reference's MayTable, NextSpare, LeftSpare, Place, over slices of words.
-/
import Derived.Test.YtjchmkgkibiadaaSpl
namespace Go.Proofs.Ytjchmkgkibiadaa
open Go.RowKit

theorem word_any (a : Int) (w : World) (h0 : 0 ≤ a) (h1 : a < 9223372036854775808) : Calls Try.prog 56 #[.int .i64 a] w fun e w' => e = .returned (.int .u64 (a + 1)) ∧ w = w' := by
  have e1 : IntKind.u64.wrap a = a := by simp [IntKind.wrap, IntKind.signed, IntKind.bits]; omega
  have e2 : IntKind.u64.wrap (a + 1) = a + 1 := by simp [IntKind.wrap, IntKind.signed, IntKind.bits]; omega
  go_enter Try.func56, Try.ntmps56
  go_wp2_with fail
  go_ret
  exact ⟨rfl, rfl⟩

theorem line_any (s p : Int) (w : World) (h0 : 0 ≤ s) (h1 : 0 ≤ p) (h2 : s + p < 9223372036854775808) : Calls Try.prog 57 #[.int .i64 s, .int .i64 p] w fun e w' => e = .returned (.int .i64 (s + p)) ∧ w = w' := by
  have e1 : IntKind.i64.wrap (9223372036854775807 - s) = 9223372036854775807 - s := IntWalk.i64_in _ (by omega)
  have e2 : IntKind.i64.wrap (s + p) = s + p := IntWalk.i64_in _ (by omega)
  have e3 : ¬ (9223372036854775807 - s < p) := by omega
  go_enter Try.func57, Try.ntmps57
  go_wp2_with fail
  go_ret
  exact ⟨rfl, rfl⟩

theorem dead_any (s : Int) (w : World) (h : (Lit.int .i64 s).wf = true) : Calls Try.prog 51 #[.int .i64 s] w fun e w' => e = .returned (.int .u64 (deadT s)) ∧ w = w' := by
  have hs : -9223372036854775808 ≤ s ∧ s ≤ 9223372036854775807 := by simpa [Lit.wf, IntKind.min, IntKind.max, IntKind.signed, IntKind.bits] using h
  clear h
  by_cases c : s < 1
  · rw [show deadT s = 0 from if_pos c]
    go_enter Try.func51, Try.ntmps51
    go_wp2
    go_ret
    exact ⟨rfl, rfl⟩
  · rw [show deadT s = s + 1 from if_neg c]
    go_enter Try.func51, Try.ntmps51
    go_wp2_with fail
    refine (word_any s w (by omega) (by omega)).mono ?_; rintro e w' ⟨rfl, rfl⟩
    go_wp2_with fail
    go_ret
    exact ⟨rfl, rfl⟩





theorem ix_nil (p : Option Addr) (cap : Nat) (w : World) : Calls Try.prog 60 #[.slice p 0 cap, .int .u64 0] w fun e w' => e = .returned (.int .i64 (-1)) ∧ w = w' := by
  go_enter Try.func60, Try.ntmps60
  go_wp2
  go_rounds 1
  go_ret
  exact ⟨rfl, rfl⟩

set_option maxHeartbeats 400000 in
theorem ix_some (l : List Int) (b off cap : Nat) (w : World) (hm : l.length ≤ maxLen) (hc : ∀ i, i < l.length → w.cell? ⟨b, off + i, none⟩ = some (.int .u64 (l.getD i 0))) :
    Calls Try.prog 60 #[.slice (some ⟨b, off, none⟩) l.length cap, .int .u64 0] w fun e w' => e = .returned (.int .i64 (nextT l)) ∧ w = w' := by
  unfold maxLen at hm
  have C := Lib.hid hc
  obtain ⟨r, hr⟩ : ∃ r, nextT l = r := ⟨_, rfl⟩
  have R := Lib.hid hr
  rw [hr]
  clear hc hr
  go_enter Try.func60, Try.ntmps60
  go_wp2
  go_loop [8] (fun i => ∃ k : Nat, k ≤ l.length ∧ i = .int .i64 k ∧ Hid (∀ j, j < k → ¬ l.getD j 0 = 0)) (fun i => l.length - (intOf i).toNat)
  case atStart => exact ⟨0, Nat.zero_le _, rfl, Lib.hid fun j hj => by omega⟩
  case round =>
    obtain ⟨k, hk, rfl, H⟩ := hrel
    by_cases hlt : k < l.length
    · have hcell := C.out k hlt
      obtain ⟨y, hy⟩ : ∃ y, l.getD k 0 = y := ⟨_, rfl⟩
      have Y := Lib.hid hy
      rw [hy] at hcell
      clear hy
      by_cases h0 : y = 0
      · subst h0
        have hn : Hid (nextT l = k) := Lib.hid (nextT_at hlt Y.out H.out)
        go_wp2
        go_ret
        exact ⟨ret_i64 (hn.out.symm.trans R.out), rfl⟩
      · have h0' : ¬ 0 = y := fun e => h0 e.symm
        go_wp2
        go_round
        case rel => exact ⟨k + 1, by omega, by go_num, Lib.hid fun j hj => by
          by_cases e : j = k
          · subst e; rw [Y.out]; exact h0
          · exact H.out j (by omega)⟩
        case measure => simp [intOf]; omega
    · obtain rfl : k = l.length := by omega
      have hn : Hid (nextT l = -1) := Lib.hid (nextT_none H.out)
      go_wp2
      go_ret
      exact ⟨ret_i64 (hn.out.symm.trans R.out), rfl⟩

theorem index_any (v : Value) (l : List Int) (w : World) (h : RU w v l) : Calls Try.prog 60 #[v, .int .u64 0] w fun e w' => e = .returned (.int .i64 (nextT l)) ∧ w = w' := by
  obtain ⟨p, cap, rfl, h1, h2, rfl | ⟨b, off, rfl, hc⟩⟩ := h
  · exact ix_nil p cap w
  · exact ix_some l b off cap w (by omega) hc

theorem next_any (v : Value) (l : List Int) (w : World) (h : RU w v l) : Calls Try.prog 58 #[v] w fun e w' => e = .returned (.int .i64 (nextT l)) ∧ w = w' := by
  have H := Lib.hid h
  obtain ⟨p, cap, rfl, _⟩ := h
  go_enter Try.func58, Try.ntmps58
  go_wp2_with fail
  refine (index_any _ l w H.out).mono ?_; rintro e w' ⟨rfl, rfl⟩
  go_wp2_with fail
  go_ret
  exact ⟨rfl, rfl⟩

theorem left_nil (p : Option Addr) (cap : Nat) (w : World) : Calls Try.prog 48 #[.slice p 0 cap] w fun e w' => e = .returned (.int .i64 0) ∧ w = w' := by
  go_enter Try.func48, Try.ntmps48
  go_wp2
  go_rounds 1
  go_ret
  exact ⟨rfl, rfl⟩

set_option maxHeartbeats 400000 in
theorem left_some (l : List Int) (b off cap : Nat) (w : World) (hm : l.length ≤ maxLen) (hc : ∀ i, i < l.length → w.cell? ⟨b, off + i, none⟩ = some (.int .u64 (l.getD i 0))) :
    Calls Try.prog 48 #[.slice (some ⟨b, off, none⟩) l.length cap] w fun e w' => e = .returned (.int .i64 ((leftT l : Nat) : Int)) ∧ w = w' := by
  unfold maxLen at hm
  have C := Lib.hid hc
  clear hc
  go_enter Try.func48, Try.ntmps48
  go_wp2
  go_loop [3, 8] (fun s i => ∃ k : Nat, k ≤ l.length ∧ s = .int .i64 ((lfT l k : Nat) : Int) ∧ i = .int .i64 k) (fun _ i => l.length - (intOf i).toNat)
  case atStart => exact ⟨0, Nat.zero_le _, rfl, rfl⟩
  case round =>
    obtain ⟨k, hk, rfl, rfl⟩ := hrel
    by_cases hlt : k < l.length
    · have hcell := C.out k hlt
      have hle := lfT_le l k
      obtain ⟨y, hy⟩ : ∃ y, l.getD k 0 = y := ⟨_, rfl⟩
      rw [hy] at hcell
      by_cases h0 : y = 0
      · subst h0
        have E := Lib.hid (lfT_hit hy)
        clear hy
        go_wp2
        go_round
        case rel => exact ⟨k + 1, by omega, by rw [E.out]; go_num, by go_num⟩
        case measure => simp [intOf]; omega
      · have E := Lib.hid (lfT_miss (l := l) (n := k) (by rw [hy]; exact h0))
        clear hy
        go_wp2
        go_round
        case rel => exact ⟨k + 1, by omega, by rw [E.out], by go_num⟩
        case measure => simp [intOf]; omega
    · obtain rfl : k = l.length := by omega
      go_wp2
      go_ret
      exact ⟨rfl, rfl⟩

theorem left_any (v : Value) (l : List Int) (w : World) (h : RU w v l) : Calls Try.prog 48 #[v] w fun e w' => e = .returned (.int .i64 ((leftT l : Nat) : Int)) ∧ w = w' := by
  obtain ⟨p, cap, rfl, h1, h2, rfl | ⟨b, off, rfl, hc⟩⟩ := h
  · exact left_nil p cap w
  · exact left_some l b off cap w (by omega) hc




end Go.Proofs.Ytjchmkgkibiadaa
