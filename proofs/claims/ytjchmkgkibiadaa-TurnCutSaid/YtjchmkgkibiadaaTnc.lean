/-
  Contracts of package turn: moves, ready, due, Lines, Moves, Left.
-/
import Derived.Test.YtjchmkgkibiadaaTnp
import Derived.Test.YtjchmkgkibiadaaGpc
import Derived.Deep.RegionHeld3
import Derived.Deep.DeepCutAuto
import Derived.Deep.RegionLaw
namespace Go.Proofs.Ytjchmkgkibiadaa
open Go.RowKit

/-- block x holds lines that go round: those of block q, on the memory of block g -/
def Tq (w : World) (x g q n per p : Nat) : Prop := Whole w x 62 #[.pointer (some ⟨g, 0, none⟩), .pointer (some ⟨q, 0, none⟩), .int .i64 (n : Int), .int .i64 (per : Int), .int .i64 (p : Int)]
theorem Tq.lt {w : World} {x g q n per p : Nat} (h : Tq w x g q n per p) : x < w.heap.size := Whole.lt h
theorem Tq.below {w w' : World} {x g q n per p : Nat} (h : Tq w x g q n per p) (hb : Below w.heap.size w w') : Tq w' x g q n per p := (hb.block x h.lt).trans h
theorem Tq.chg {D : List Nat} {w w' : World} {x g q n per p : Nat} (h : Tq w x g q n per p) (hc : Chg D w w') (hq : x ∉ D) : Tq w' x g q n per p := hc.whole h hq
theorem Tq.alloc {w : World} {x g q n per p : Nat} (h : Tq w x g q n per p) (o : Obj) : Tq (w.alloc o) x g q n per p := Whole.alloc h o
theorem Tq.c0 {w : World} {x g q n per p : Nat} (h : Tq w x g q n per p) : w.cell? ⟨x, 0, none⟩ = some (.pointer (some ⟨g, 0, none⟩)) := by rw [Whole.at_ h]; rfl
theorem Tq.c1 {w : World} {x g q n per p : Nat} (h : Tq w x g q n per p) : w.cell? ⟨x, 1, none⟩ = some (.pointer (some ⟨q, 0, none⟩)) := by rw [Whole.at_ h]; rfl
theorem Tq.c2 {w : World} {x g q n per p : Nat} (h : Tq w x g q n per p) : w.cell? ⟨x, 2, none⟩ = some (.int .i64 (n : Int)) := by rw [Whole.at_ h]; rfl
theorem Tq.c3 {w : World} {x g q n per p : Nat} (h : Tq w x g q n per p) : w.cell? ⟨x, 3, none⟩ = some (.int .i64 (per : Int)) := by rw [Whole.at_ h]; rfl
theorem Tq.c4 {w : World} {x g q n per p : Nat} (h : Tq w x g q n per p) : w.cell? ⟨x, 4, none⟩ = some (.int .i64 (p : Int)) := by rw [Whole.at_ h]; rfl
theorem Tq.free {w : World} {x g q n per p : Nat} (h : Tq w x g q n per p) (k : Nat) : w.frozen? ⟨x, k, none⟩ = false := Whole.free h k
/-- its Puts counted -/
theorem Tq.count {w : World} {x g q n per p : Nat} (h : Tq w x g q n per p) (p' : Nat) : Tq (w.setCell ⟨x, 4, none⟩ (.int .i64 (p' : Int))) x g q n per p' := Whole.set_ h 4 _

/-- the moves, as the register tells them -/
theorem tmoves_is {x g M : Nat} {s : Nv} {w : World} (h0 : w.cell? ⟨x, 0, none⟩ = some (.pointer (some ⟨g, 0, none⟩))) (hN : Nm w g s) (hd : s.dark = false) (hr : s.rg 0 = (M : Int)) (hm : M < 4611686018427387904) :
    Calls Try.prog 24 #[.pointer (some ⟨x, 0, none⟩)] w fun e w' => e = .returned (.tuple #[.int .i64 (M : Int), .int .i64 0]) ∧ w = w' := by
  have C := Lib.hid (reg_yes g s 0 w hN (by simp [Nv.rdy, hasR, hd]))
  rw [hr] at C
  have k1 : IntKind.i64.wrap (M : Int) = (M : Int) := i64_nat _ (by omega)
  have k2 : min (M : Int) 9223372036854775807 = (M : Int) := by omega
  have k3 : (M : Int) < 9223372036854775807 := by omega
  have k4 : (M : Int) ≤ 9223372036854775807 := by omega
  clear hN hr hm
  go_enter Try.func24, Try.ntmps24
  go_wp2_with fail
  refine (C.out).mono ?_; rintro e w' ⟨rfl, rfl⟩
  go_wp2
  go_ret2
  exact ⟨rfl, rfl⟩
theorem tlines_is {x g q n per p : Nat} {w : World} (h : Tq w x g q n per p) : Calls Try.prog 12 #[.pointer (some ⟨x, 0, none⟩)] w fun e w' => e = .returned (.int .i64 (n : Int)) ∧ w = w' := by
  have c := h.c2
  clear h
  go_enter Try.func12, Try.ntmps12
  go_wp2_with fail
  go_ret
  exact ⟨rfl, rfl⟩
theorem tlines_nil (w : World) : Calls Try.prog 12 #[.pointer none] w fun e w' => e = .returned (.int .i64 0) ∧ w = w' := by
  go_enter Try.func12, Try.ntmps12
  go_wp2_with fail
  go_ret
  exact ⟨rfl, rfl⟩
theorem tmv_is {x g q n P per p M : Nat} {s : Nv} {w : World} (H : TOk s n P M) (h : Tq w x g q n per p) (hN : Nm w g s) :
    Calls Try.prog 15 #[.pointer (some ⟨x, 0, none⟩)] w fun e w' => e = .returned (.int .i64 (M : Int)) ∧ w = w' := by
  have C := Lib.hid (tmoves_is h.c0 hN H.l.live H.rg H.m)
  clear h hN H
  go_enter Try.func15, Try.ntmps15
  go_wp2_with fail
  refine (C.out).mono ?_; rintro e w' ⟨rfl, rfl⟩
  go_wp2_with fail
  go_ret
  exact ⟨rfl, rfl⟩
theorem tmv_nil (w : World) : Calls Try.prog 15 #[.pointer none] w fun e w' => e = .returned (.int .i64 0) ∧ w = w' := by
  go_enter Try.func15, Try.ntmps15
  go_wp2_with fail
  go_ret
  exact ⟨rfl, rfl⟩
theorem tleft_is {x g q n P per p M k : Nat} {s : Nv} {w : World} (hx : leftT (s.tb P) = k) (H : TOk s n P M) (h : Tq w x g q n per p) (hQ : Lq w q g (n + 1) P) (hN : Nm w g s) :
    Calls Try.prog 14 #[.pointer (some ⟨x, 0, none⟩)] w fun e w' => e = .returned (.int .i64 (k : Int)) ∧ Below w.heap.size w w' := by
  have C := Lib.hid (lleft_is hx H.l hQ hN)
  have c := h.c1
  clear h hN H hQ hx
  go_enter Try.func14, Try.ntmps14
  go_wp2_with fail
  refine (C.out).mono ?_; rintro e w' ⟨rfl, hb⟩
  go_wp2_with fail
  go_ret
  exact ⟨rfl, hb⟩
theorem tleft_nil (w : World) : Calls Try.prog 14 #[.pointer none] w fun e w' => e = .returned (.int .i64 0) ∧ w = w' := by
  go_enter Try.func14, Try.ntmps14
  go_wp2_with fail
  go_ret
  exact ⟨rfl, rfl⟩
theorem tready_nil (a : Int) (w : World) : Calls Try.prog 25 #[.pointer none, .int .i64 a] w fun e w' => e = .returned (.tuple #[.int .i64 0, .int .i64 1]) ∧ w = w' := by
  by_cases h : a < 0
  · go_enter Try.func25, Try.ntmps25
    go_wp2
    go_ret2
    exact ⟨rfl, rfl⟩
  · have h2 : a ≥ 0 := by omega
    go_enter Try.func25, Try.ntmps25
    go_wp2_with fail
    refine (tlines_nil w).mono ?_; rintro e w' ⟨rfl, rfl⟩
    go_wp2
    go_ret2
    exact ⟨rfl, rfl⟩
theorem tready_out {x g q n per p : Nat} {a : Int} {w : World} (h : Tq w x g q n per p) (ha : ¬ (0 ≤ a ∧ a < n)) :
    Calls Try.prog 25 #[.pointer (some ⟨x, 0, none⟩), .int .i64 a] w fun e w' => e = .returned (.tuple #[.int .i64 0, .int .i64 1]) ∧ w = w' := by
  have C := Lib.hid (tlines_is h)
  clear h
  by_cases h : a < 0
  · clear ha
    go_enter Try.func25, Try.ntmps25
    go_wp2
    go_ret2
    exact ⟨rfl, rfl⟩
  · have h2 : a ≥ (n : Int) := by omega
    clear ha
    go_enter Try.func25, Try.ntmps25
    go_wp2_with fail
    refine (C.out).mono ?_; rintro e w' ⟨rfl, rfl⟩
    go_wp2
    go_ret2
    exact ⟨rfl, rfl⟩
theorem tready_is {x g q n P per p M a : Nat} {s : Nv} {w : World} (H : TOk s n P M) (h : Tq w x g q n per p) (hN : Nm w g s) (ha : a < n) :
    Calls Try.prog 25 #[.pointer (some ⟨x, 0, none⟩), .int .i64 (a : Int)] w fun e w' => e = .returned (.tuple #[.int .i64 (M : Int), .int .i64 0]) ∧ w = w' := by
  have C := Lib.hid (tlines_is h)
  have D := Lib.hid (tmoves_is h.c0 hN H.l.live H.rg H.m)
  have i1 : ¬ (a : Int) < 0 := by omega
  have i2 : ¬ (a : Int) ≥ (n : Int) := by omega
  clear h hN H ha
  go_enter Try.func25, Try.ntmps25
  go_wp2_with fail
  refine (C.out).mono ?_; rintro e w' ⟨rfl, rfl⟩
  go_wp2_with fail
  refine (D.out).mono ?_; rintro e w' ⟨rfl, rfl⟩
  go_wp2
  go_ret2
  exact ⟨rfl, rfl⟩
theorem due_is {x g q n per p : Nat} {w : World} (h : Tq w x g q n per p) (hp : p < 4611686018427387904) :
    Calls Try.prog 26 #[.pointer (some ⟨x, 0, none⟩)] w fun e w' => e = .returned (.bool (decide (per ≤ p + 1))) ∧ Tq w' x g q n per (tp per p) ∧ Chg [x] w w' := by
  have c4 := h.c4
  have f4 := h.free 4
  have k1 : IntKind.i64.wrap ((p : Int) + 1) = ((p + 1 : Nat) : Int) := by rw [show (p : Int) + 1 = ((p + 1 : Nat) : Int) by omega]; exact i64_nat _ (by omega)
  have T1 := h.count (p + 1)
  have C1 := (Chg.refl [x] w).setCell (p := ⟨x, 4, none⟩) (.inl (by simp)) (.int .i64 ((p + 1 : Nat) : Int))
  generalize hP : p + 1 = P1 at *
  obtain ⟨W1, hW1⟩ : ∃ W1, w.setCell ⟨x, 4, none⟩ (.int .i64 (P1 : Int)) = W1 := ⟨_, rfl⟩
  rw [hW1] at T1 C1
  have d4 := T1.c4
  have d3 := T1.c3
  have g4 := T1.free 4
  by_cases hd : per ≤ P1
  · have ht : tp per p = 0 := if_pos (hP ▸ hd)
    have hdd : decide (per ≤ P1) = true := decide_eq_true hd
    have i1 : ¬ (P1 : Int) < (per : Int) := by omega
    rw [ht, hdd]
    have T2 := T1.count 0
    have TT := Lib.hid T2
    have CC := Lib.hid C1
    clear h T1 C1 T2 hd ht hdd hP hp
    go_enter Try.func26, Try.ntmps26
    go_wp2_with fail
    go_quiet (fail)
    go_wp2
    go_ret
    exact ⟨rfl, TT.out, (CC.out.drewN _).setCell (.inl (List.mem_singleton.2 rfl)) _⟩
  · have ht : tp per p = P1 := (if_neg (hP ▸ hd)).trans hP
    have hdd : decide (per ≤ P1) = false := decide_eq_false hd
    have i1 : (P1 : Int) < (per : Int) := by omega
    rw [ht, hdd]
    have TT := Lib.hid T1
    have CC := Lib.hid C1
    clear h T1 C1 hd ht hdd hP hp
    go_enter Try.func26, Try.ntmps26
    go_wp2_with fail
    go_quiet (fail)
    go_wp2
    go_ret
    exact ⟨rfl, TT.out, CC.out.drewN _⟩
end Go.Proofs.Ytjchmkgkibiadaa
