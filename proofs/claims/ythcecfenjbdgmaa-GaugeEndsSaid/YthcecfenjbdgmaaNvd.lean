/-
  Contracts of package nvm's write, Wear, Cut, Power, Reg and Get.
-/
import Derived.Test.YthcecfenjbdgmaaNvc
namespace Go.Proofs.Ythcecfenjbdgmaa
set_option maxRecDepth 100000
open Go.RowKit

theorem Nm.set_c {w : World} {g : Nat} {s : Nv} (h : Nm w g s) (x : Int) : Nm (w.setCell ⟨g, 2036, none⟩ (.int .i64 x)) g { s with c := x } :=
  h.set1 2036 _ (by decide) fun j hj => by
    by_cases e : j = 2036
    · subst e; rfl
    · rw [if_neg e]; simp only [Nv.val, e, if_false]
theorem Nm.set_dark {w : World} {g : Nat} {s : Nv} (h : Nm w g s) (x : Bool) : Nm (w.setCell ⟨g, 2037, none⟩ (.bool x)) g { s with dark := x } :=
  h.set1 2037 _ (by decide) fun j hj => by
    by_cases e : j = 2037
    · subst e; rfl
    · rw [if_neg e]; simp only [Nv.val, e, if_false]
theorem Nm.set_comes {w : World} {g : Nat} {s : Nv} (h : Nm w g s) (x : Bool) : Nm (w.setCell ⟨g, 2038, none⟩ (.bool x)) g { s with comes := x } :=
  h.set1 2038 _ (by decide) fun j hj => by
    by_cases e : j = 2038
    · subst e; rfl
    · rw [if_neg e]; simp only [Nv.val, e, if_false]
theorem Nm.set_ahead {w : World} {g : Nat} {s : Nv} (h : Nm w g s) (x : Int) : Nm (w.setCell ⟨g, 2039, none⟩ (.int .i64 x)) g { s with ahead := x } :=
  h.set1 2039 _ (by decide) fun j hj => by
    by_cases e : j = 2039
    · subst e; rfl
    · rw [if_neg e]; simp only [Nv.val, e, if_false]
theorem Nm.set_mask {w : World} {g : Nat} {s : Nv} (h : Nm w g s) (x : Int) : Nm (w.setCell ⟨g, 2040, none⟩ (.int .i64 x)) g { s with mask := x } :=
  h.set1 2040 _ (by decide) fun j hj => by
    by_cases e : j = 2040
    · subst e; rfl
    · rw [if_neg e]
      have h1 : j < 2000 ∨ j = 2000 ∨ (¬ j < 2000 ∧ j ≠ 2000 ∧ j < 2036) ∨ j = 2036 ∨ j = 2037 ∨ j = 2038 ∨ j = 2039 := by omega
      rcases h1 with h1 | h1 | ⟨h1, h2, h3⟩ | h1 | h1 | h1 | h1
      · simp only [Nv.val, if_pos h1]
      · subst h1; rfl
      · simp only [Nv.val, if_neg h1, if_neg h2, if_pos h3]
      all_goals (subst h1; rfl)

theorem write_idle (g : Nat) (s : Nv) (w : World) (h : Nm w g s) (hc : 0 ≤ s.c) (hc2 : s.c < 4611686018427387904) (hs : s.comes = false) :
    Calls Try.prog 33 #[.pointer (some ⟨g, 0, none⟩)] w fun e w' => e = .returned (.tuple #[.int .i64 255, .int .i64 0]) ∧ w' = w.setCell ⟨g, 2036, none⟩ (.int .i64 (s.c + 1)) := by
  have c0 := h.at_ (k := 2036) (by decide)
  rw [s.val_c] at c0
  have c1 := h.at_ (k := 2038) (by decide)
  rw [s.val_comes, hs] at c1
  have z0 := h.free 2036
  clear h
  generalize s.c = c at *
  go_enter Try.func33, Try.ntmps33
  go_wp2
  go_ret2
  exact ⟨rfl, rfl⟩
theorem write_ahead (g : Nat) (s : Nv) (w : World) (h : Nm w g s) (hc : 0 ≤ s.c) (hc2 : s.c < 4611686018427387904) (ha : s.ahead ≤ 9223372036854775807) (hs : s.comes = true) (hp : 0 < s.ahead) :
    Calls Try.prog 33 #[.pointer (some ⟨g, 0, none⟩)] w fun e w' => e = .returned (.tuple #[.int .i64 255, .int .i64 0]) ∧ w' = (w.setCell ⟨g, 2036, none⟩ (.int .i64 (s.c + 1))).setCell ⟨g, 2039, none⟩ (.int .i64 (s.ahead - 1)) := by
  have c0 := h.at_ (k := 2036) (by decide)
  rw [s.val_c] at c0
  have c1 := h.at_ (k := 2038) (by decide)
  rw [s.val_comes, hs] at c1
  have c2 := h.at_ (k := 2039) (by decide)
  rw [s.val_ahead] at c2
  have z0 := h.free 2036
  have z2 := h.free 2039
  clear h
  generalize s.c = c at *
  generalize s.ahead = a at *
  go_enter Try.func33, Try.ntmps33
  go_wp2
  go_ret2
  exact ⟨rfl, rfl⟩
theorem write_gone (g : Nat) (s : Nv) (w : World) (h : Nm w g s) (hc : 0 ≤ s.c) (hc2 : s.c < 4611686018427387904) (hs : s.comes = true) (hp : s.ahead ≤ 0) :
    Calls Try.prog 33 #[.pointer (some ⟨g, 0, none⟩)] w fun e w' => e = .returned (.tuple #[.int .i64 s.mask, .int .i64 2]) ∧ w' = (w.setCell ⟨g, 2036, none⟩ (.int .i64 (s.c + 1))).setCell ⟨g, 2037, none⟩ (.bool true) := by
  have c0 := h.at_ (k := 2036) (by decide)
  rw [s.val_c] at c0
  have c1 := h.at_ (k := 2038) (by decide)
  rw [s.val_comes, hs] at c1
  have c2 := h.at_ (k := 2039) (by decide)
  rw [s.val_ahead] at c2
  have c3 := h.at_ (k := 2040) (by decide)
  rw [s.val_mask] at c3
  have c4 := h.at_ (k := 2037) (by decide)
  rw [s.val_dark] at c4
  have z0 := h.free 2036
  have z1 := h.free 2037
  have z2 := h.free 2039
  clear h
  generalize s.c = c at *
  generalize s.ahead = a at *
  generalize s.mask = m at *
  generalize s.dark = d at *
  go_enter Try.func33, Try.ntmps33
  go_wp2
  go_ret2
  exact ⟨rfl, rfl⟩
theorem write_any (g : Nat) (s : Nv) (w : World) (h : Nm w g s) (hc : 0 ≤ s.c) (hc2 : s.c < 4611686018427387904) (ha : s.ahead ≤ 9223372036854775807) :
    Calls Try.prog 33 #[.pointer (some ⟨g, 0, none⟩)] w fun e w' => e = .returned (.tuple #[.int .i64 s.by_, .int .i64 s.told]) ∧ Nm w' g s.tick ∧ Chg [g] w w' := by
  have HC := Chg.refl [g] w
  have hD : g ∈ [g] ∨ w.heap.size ≤ g := .inl (by simp)
  by_cases hs : s.comes = true
  · by_cases hp : 0 < s.ahead
    · have hg : s.goes = false := by simp [Nv.goes]; intro _; omega
      refine (write_ahead g s w h hc hc2 ha hs hp).mono ?_
      rintro e w' ⟨rfl, rfl⟩
      refine ⟨by simp [Nv.by_, Nv.told, hg], (((h.set_c (s.c + 1)).set_ahead (s.ahead - 1))).as ?_, (HC.setCell (p := ⟨g, 2036, none⟩) hD _).setCell (p := ⟨g, 2039, none⟩) hD _⟩
      simp [Nv.tick, hs, hg, hp]
    · have hg : s.goes = true := by simp [Nv.goes, hs]; omega
      refine (write_gone g s w h hc hc2 hs (by omega)).mono ?_
      rintro e w' ⟨rfl, rfl⟩
      refine ⟨by simp [Nv.by_, Nv.told, hg], (((h.set_c (s.c + 1)).set_dark true)).as ?_, (HC.setCell (p := ⟨g, 2036, none⟩) hD _).setCell (p := ⟨g, 2037, none⟩) hD _⟩
      simp [Nv.tick, hs, hg, hp]
  · have hs' : s.comes = false := by simpa using hs
    have hg : s.goes = false := by simp [Nv.goes, hs']
    refine (write_idle g s w h hc hc2 hs').mono ?_
    rintro e w' ⟨rfl, rfl⟩
    refine ⟨by simp [Nv.by_, Nv.told, hg], (h.set_c (s.c + 1)).as ?_, HC.setCell (p := ⟨g, 2036, none⟩) hD _⟩
    simp [Nv.tick, hs', hg]

theorem wear_any (g : Nat) (s : Nv) (i : Int) (w : World) (h : Nm w g s) (ho : s.Ok) : Calls Try.prog 17 #[.pointer (some ⟨g, 0, none⟩), .int .i64 i] w fun e w' => e = .returned (.int .i64 (s.wear i)) ∧ w = w' := by
  have C := Lib.hid (hasLine_any g s i w h)
  unfold Nv.wear
  cases hb : s.has i
  · clear h
    go_enter Try.func17, Try.ntmps17
    go_wp2_with fail
    refine C.out.mono ?_; rintro e w' ⟨rfl, rfl⟩
    rw [hb]
    go_wp2
    go_ret
    exact ⟨rfl, rfl⟩
  · simp only [Nv.has, Bool.and_eq_true, decide_eq_true_eq] at hb
    obtain ⟨k, rfl⟩ : ∃ k : Nat, i = k := ⟨i.toNat, by omega⟩
    have hk : k < 200 := by have := ho.hi; omega
    have c0 := h.at_ (k := k * 10 + 8) (by omega)
    rw [s.val_wr hk] at c0
    have hb' : s.has k = true := by simp [Nv.has]; omega
    clear h hb ho
    go_enter Try.func17, Try.ntmps17
    go_wp2_with fail
    refine C.out.mono ?_; rintro e w' ⟨rfl, rfl⟩
    rw [hb']
    go_wp2
    go_ret
    exact ⟨rfl, rfl⟩
theorem wear_nil (i : Int) (w : World) : Calls Try.prog 17 #[.pointer none, .int .i64 i] w fun e w' => e = .returned (.int .i64 0) ∧ w = w' := by
  go_enter Try.func17, Try.ntmps17
  go_wp2_with fail
  refine (hasLine_nil i w).mono ?_; rintro e w' ⟨rfl, rfl⟩
  go_wp2
  go_ret
  exact ⟨rfl, rfl⟩

end Go.Proofs.Ythcecfenjbdgmaa
