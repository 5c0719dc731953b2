/-
  Contracts of package nvm's small functions.
-/
import Derived.Test.YthcecfenjbdgmaaNvb
import Derived.StillTailTactics
namespace Go.Proofs.Ythcecfenjbdgmaa
set_option maxRecDepth 100000
open Go.RowKit

theorem lines_any (g : Nat) (s : Nv) (w : World) (h : Nm w g s) : Calls Try.prog 16 #[.pointer (some ⟨g, 0, none⟩)] w fun e w' => e = .returned (.int .i64 (s.n : Int)) ∧ w = w' := by
  have c0 := h.at_ (k := 2000) (by decide)
  rw [s.val_n] at c0
  clear h
  go_enter Try.func16, Try.ntmps16
  go_wp2
  go_ret
  exact ⟨rfl, rfl⟩
theorem lines_nil (w : World) : Calls Try.prog 16 #[.pointer none] w fun e w' => e = .returned (.int .i64 0) ∧ w = w' := by
  go_enter Try.func16, Try.ntmps16
  go_wp2
  go_ret
  exact ⟨rfl, rfl⟩
theorem hasLine_any (g : Nat) (s : Nv) (i : Int) (w : World) (h : Nm w g s) : Calls Try.prog 32 #[.pointer (some ⟨g, 0, none⟩), .int .i64 i] w fun e w' => e = .returned (.bool (s.has i)) ∧ w = w' := by
  have C := Lib.hid (lines_any g s w h)
  clear h
  by_cases hi : 0 ≤ i
  · go_enter Try.func32, Try.ntmps32
    go_wp2_with fail
    refine (C.out).mono ?_; rintro e w' ⟨rfl, rfl⟩
    go_wp2_with fail
    go_ret
    exact ⟨by simp [Nv.has, hi], rfl⟩
  · go_enter Try.func32, Try.ntmps32
    go_wp2
    go_wp2_with fail
    go_ret
    exact ⟨by simp [Nv.has]; omega, rfl⟩
theorem hasLine_nil (i : Int) (w : World) : Calls Try.prog 32 #[.pointer none, .int .i64 i] w fun e w' => e = .returned (.bool false) ∧ w = w' := by
  by_cases hi : 0 ≤ i
  · go_enter Try.func32, Try.ntmps32
    go_wp2_with fail
    refine (lines_nil w).mono ?_; rintro e w' ⟨rfl, rfl⟩
    go_wp2_with fail
    go_ret
    exact ⟨by simp [hi], rfl⟩
  · go_enter Try.func32, Try.ntmps32
    go_wp2
    go_wp2_with fail
    go_ret
    exact ⟨by simp, rfl⟩
theorem ready_any (g : Nat) (s : Nv) (b : Bool) (w : World) (h : Nm w g s) : Calls Try.prog 31 #[.pointer (some ⟨g, 0, none⟩), .bool b] w fun e w' => e = .returned (.int .i64 (s.rdy b)) ∧ w = w' := by
  have c0 := h.at_ (k := 2037) (by decide)
  rw [s.val_dark] at c0
  clear h
  unfold Nv.rdy
  generalize s.dark = d at *
  cases b
  · go_enter Try.func31, Try.ntmps31
    go_wp2
    go_ret
    exact ⟨rfl, rfl⟩
  · cases d
    · go_enter Try.func31, Try.ntmps31
      go_wp2
      go_ret
      exact ⟨rfl, rfl⟩
    · go_enter Try.func31, Try.ntmps31
      go_wp2
      go_ret
      exact ⟨rfl, rfl⟩
theorem ready_nil (w : World) : Calls Try.prog 31 #[.pointer none, .bool false] w fun e w' => e = .returned (.int .i64 1) ∧ w = w' := by
  go_enter Try.func31, Try.ntmps31
  go_wp2
  go_ret
  exact ⟨rfl, rfl⟩
theorem worn_any (g : Nat) (s : Nv) (i : Nat) (w : World) (h : Nm w g s) (hi : i < 200) : Calls Try.prog 34 #[.pointer (some ⟨g, i * 10, none⟩)] w fun e w' => e = .returned (.bool (s.worn i)) ∧ ∃ n, w' = w.drewN n := by
  have c0 := h.at_ (k := i * 10 + 8) (by omega)
  have c1 := h.at_ (k := i * 10 + 9) (by omega)
  rw [s.val_wr hi] at c0
  rw [s.val_la hi] at c1
  clear h
  unfold Nv.worn
  generalize s.wr i = x at *
  generalize s.la i = y at *
  by_cases hy : 0 ≤ y
  · have t0 : decide (0 ≤ y) = true := by simpa using hy
    rw [t0]
    go_enter Try.func34, Try.ntmps34
    go_wp2_with fail
    go_quiet (fail)
    go_wp2
    go_ret
    exact ⟨by simp, _, rfl⟩
  · have t0 : decide (0 ≤ y) = false := by simpa using hy
    rw [t0]
    go_enter Try.func34, Try.ntmps34
    go_wp2_with fail
    go_quiet (fail)
    go_wp2
    go_ret
    exact ⟨by simp, _, rfl⟩
end Go.Proofs.Ythcecfenjbdgmaa
