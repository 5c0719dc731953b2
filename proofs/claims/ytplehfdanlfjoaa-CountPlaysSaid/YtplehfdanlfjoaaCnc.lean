/-
  Contracts of package count: asked.
-/
import Derived.Test.YtplehfdanlfjoaaCnl
import Derived.Test.YtplehfdanlfjoaaOwi
namespace Go.Proofs.Ytplehfdanlfjoaa
open Go.RowKit

theorem chas_nil (p : Int) (w : World) : Calls Try.prog 16 #[.pointer none, .int .i64 p] w fun e w' => e = .returned (.bool false) ∧ w = w' := by
  go_enter Try.func16, Try.ntmps16
  go_wp2_with fail
  go_ret
  exact ⟨rfl, rfl⟩
theorem chas_yes {x g : Nat} {s : Ct} {p : Nat} {w : World} (h : Cq w x g s) (hp : p < s.n) : Calls Try.prog 16 #[.pointer (some ⟨x, 0, none⟩), .int .i64 (p : Int)] w fun e w' => e = .returned (.bool true) ∧ w = w' := by
  have c1 := h.c1
  have i1 : (p : Int) ≥ 0 := by omega
  have i2 : (p : Int) < (s.n : Int) := by omega
  clear h hp
  generalize s.n = n at *
  go_enter Try.func16, Try.ntmps16
  go_wp2_with fail
  go_ret
  exact ⟨rfl, rfl⟩
theorem chas_no {x g : Nat} {s : Ct} {p : Int} {w : World} (h : Cq w x g s) (hp : p < 0 ∨ (s.n : Int) ≤ p) : Calls Try.prog 16 #[.pointer (some ⟨x, 0, none⟩), .int .i64 p] w fun e w' => e = .returned (.bool false) ∧ w = w' := by
  have c1 := h.c1
  by_cases h1 : p < 0
  · have i1 : ¬ p ≥ 0 := by omega
    clear h hp
    generalize s.n = n at *
    go_enter Try.func16, Try.ntmps16
    go_wp2_with fail
    go_ret
    exact ⟨rfl, rfl⟩
  · have i1 : p ≥ 0 := by omega
    have i2 : ¬ p < (s.n : Int) := by omega
    clear h hp
    generalize s.n = n at *
    go_enter Try.func16, Try.ntmps16
    go_wp2_with fail
    go_ret
    exact ⟨rfl, rfl⟩
theorem tlag_is (c k l : Int) (w : World) (hl : IntKind.i64.wrap (c - k) = l) : Calls Try.prog 17 #[.agg #[.int .i64 c, .int .i64 k]] w fun e w' => e = .returned (.int .i64 l) ∧ Below w.heap.size w w' := by
  have B := Lib.hid (bal (o := .cells #[.int .i64 c, .int .i64 k] 40) (Below.refl w.heap.size w))
  go_enter Try.func17, Try.ntmps17
  go_wp2_with fail
  go_ret
  exact ⟨rfl, B.out⟩
theorem cof_no {v : Value} {p : Int} {w : World} (h : Calls Try.prog 16 #[v, .int .i64 p] w fun e w' => e = .returned (.bool false) ∧ w = w') : Calls Try.prog 10 #[v, .int .i64 p] w fun e w' => e = .returned (.int .i64 0) ∧ w = w' := by
  have C := Lib.hid h
  clear h
  go_enter Try.func10, Try.ntmps10
  go_wp2_with fail
  refine (C.out).mono ?_; rintro e w' ⟨rfl, rfl⟩
  go_wp2_with fail
  go_ret
  exact ⟨rfl, rfl⟩
theorem cof_yes {x g : Nat} {s : Ct} {p : Nat} {w : World} (h : Cq w x g s) (hp : p < s.n) : Calls Try.prog 10 #[.pointer (some ⟨x, 0, none⟩), .int .i64 (p : Int)] w fun e w' => e = .returned (.int .i64 (s.c p : Int)) ∧ w = w' := by
  have C := Lib.hid (chas_yes h hp)
  have c1 := h.c1
  have p0 := h.p0 hp
  have i1 : (0 : Int) ≤ (p : Int) := by omega
  have i2 : (p : Int) < (s.n : Int) := by omega
  have i3 : ¬ (p : Int) < 0 := by omega
  clear h
  generalize s.n = n at *
  generalize s.c p = cc at *
  go_enter Try.func10, Try.ntmps10
  go_wp2_with fail
  refine (C.out).mono ?_; rintro e w' ⟨rfl, rfl⟩
  go_wp2_with fail
  go_ret
  exact ⟨rfl, rfl⟩
theorem clag_no {v : Value} {p : Int} {w : World} (h : Calls Try.prog 16 #[v, .int .i64 p] w fun e w' => e = .returned (.bool false) ∧ w = w') : Calls Try.prog 11 #[v, .int .i64 p] w fun e w' => e = .returned (.int .i64 0) ∧ w = w' := by
  have C := Lib.hid h
  clear h
  go_enter Try.func11, Try.ntmps11
  go_wp2_with fail
  refine (C.out).mono ?_; rintro e w' ⟨rfl, rfl⟩
  go_wp2_with fail
  go_ret
  exact ⟨rfl, rfl⟩
theorem clag_yes {x g : Nat} {s : Ct} {p : Nat} {w : World} (h : Cq w x g s) (hk : s.Ok) (hp : p < s.n) : Calls Try.prog 11 #[.pointer (some ⟨x, 0, none⟩), .int .i64 (p : Int)] w fun e w' => e = .returned (.int .i64 (s.lag p : Int)) ∧ Below w.heap.size w w' := by
  have C := Lib.hid (chas_yes h hp)
  have c1 := h.c1
  have p0 := h.p0 hp
  have p1 := h.p1 hp
  have i1 : (0 : Int) ≤ (p : Int) := by omega
  have i2 : (p : Int) < (s.n : Int) := by omega
  have i3 : ¬ (p : Int) < 0 := by omega
  have T := Lib.hid (tlag_is (s.c p : Int) (s.k p : Int) (s.lag p : Int) w (by
    have := hk.le p hp; have := hk.lag p hp; have := hk.b2
    unfold Ct.lag
    rw [show (s.c p : Int) - (s.k p : Int) = ((s.c p - s.k p : Nat) : Int) by omega]; exact i64_nat _ (by omega)))
  clear h hk
  generalize s.n = n at *
  generalize s.c p = cc at *
  generalize s.k p = kk at *
  generalize s.lag p = ll at *
  go_enter Try.func11, Try.ntmps11
  go_wp2_with fail
  refine (C.out).mono ?_; rintro e w' ⟨rfl, rfl⟩
  go_wp2_with fail
  refine (T.out).mono ?_; rintro e w' ⟨rfl, hb⟩
  have HB := Lib.hid hb
  clear hb
  go_wp2_with fail
  go_ret
  exact ⟨rfl, HB.out⟩
end Go.Proofs.Ytplehfdanlfjoaa
