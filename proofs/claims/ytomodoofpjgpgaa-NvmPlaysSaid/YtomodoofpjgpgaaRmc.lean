/-
  Contracts of the reference's goes, Cut, Power, Reg and Get.
-/
import Derived.Test.YtomodoofpjgpgaaRmb
namespace Go.Proofs.Ytomodoofpjgpgaa
open Go.RowKit

/-- a write counted, but for the power -/
def Nv.tick0 (s : Nv) : Nv := { s with c := s.c + 1, ahead := if s.comes && decide (0 < s.ahead) then s.ahead - 1 else s.ahead }
theorem Nv.tick_of (s : Nv) : s.tick = { s.tick0 with dark := s.dark || s.goes } := rfl

theorem goes_zero (r : Rg) (s : Nv) (mk : Int) (w : World) (h : RB w r s 0 mk) (hc : 0 ≤ s.c) (hc2 : s.c < 4611686018427387904) :
    Calls Try.prog 34 #[.pointer (some ⟨r.a, 0, none⟩)] w fun e w' => e = .returned (.bool false) ∧ w' = w.setCell ⟨r.a, 41, none⟩ (.int .i64 (s.c + 1)) := by
  obtain ⟨_, _, _, c38, _, _, c41⟩ := h.cells
  have z41 := h.free 41
  clear h
  obtain ⟨a, rl, rm, rv, lim⟩ := r
  dsimp only at c38 c41 z41 ⊢
  generalize s.c = c at *
  go_enter Try.func34, Try.ntmps34
  go_wp2
  go_ret
  exact ⟨rfl, rfl⟩
theorem goes_some (r : Rg) (s : Nv) (cuts mk : Int) (w : World) (h : RB w r s cuts mk) (hc : 0 ≤ s.c) (hc2 : s.c < 4611686018427387904) (hp : 0 < cuts) (hp2 : cuts < 9223372036854775807) :
    Calls Try.prog 34 #[.pointer (some ⟨r.a, 0, none⟩)] w fun e w' => e = .returned (.bool (cuts - 1 == 0)) ∧ w' = (w.setCell ⟨r.a, 41, none⟩ (.int .i64 (s.c + 1))).setCell ⟨r.a, 38, none⟩ (.int .i64 (cuts - 1)) := by
  obtain ⟨_, _, _, c38, _, _, c41⟩ := h.cells
  have z41 := h.free 41
  have z38 := h.free 38
  have t0 : (cuts == 0) = false := by simp; omega
  clear h
  obtain ⟨a, rl, rm, rv, lim⟩ := r
  dsimp only at c38 c41 z41 z38 ⊢
  generalize s.c = c at *
  go_enter Try.func34, Try.ntmps34
  go_wp2
  go_ret
  exact ⟨rfl, rfl⟩
theorem goes_any (r : Rg) (s : Nv) (cuts mk : Int) (w : World) (h : RB w r s cuts mk) (hr : Rel s cuts mk) (hd : s.dark = false) (hc : 0 ≤ s.c) (hc2 : s.c < 1000000) :
    Calls Try.prog 34 #[.pointer (some ⟨r.a, 0, none⟩)] w fun e w' => e = .returned (.bool s.goes) ∧ ∃ cuts', RB w' r s.tick0 cuts' mk ∧ Chg r.D w w' ∧ (s.goes = false → Rel s.tick cuts' mk) ∧ (s.goes = true → mk = s.mask) := by
  have hD : r.a ∈ r.D ∨ w.heap.size ≤ r.a := .inl (by simp [Rg.D])
  rcases hr with hr | ⟨h1, rfl⟩ | ⟨h1, h2, h3, rfl⟩ | ⟨h1, h2, h3, rfl, h5⟩
  · rw [hd] at hr; cases hr
  · have hg : s.goes = false := by simp [Nv.goes, h1]
    refine (goes_zero r s mk w h hc (by omega)).mono ?_
    rintro e w' ⟨rfl, rfl⟩
    refine ⟨by rw [hg], 0, (h.set_c (s.c + 1)).as (by simp [Nv.tick0, h1]), (Chg.refl _ _).setCell (p := ⟨r.a, 41, none⟩) hD _, fun _ => .inr (.inl ⟨h1, rfl⟩), fun hx => by rw [hg] at hx; cases hx⟩
  · have hp : 0 < s.ahead := by omega
    have hg : s.goes = false := by simp [Nv.goes]; intro _; omega
    have ha : s.tick.ahead = s.ahead - 1 := by simp [Nv.tick, h1, hp]
    refine (goes_zero r s mk w h hc (by omega)).mono ?_
    rintro e w' ⟨rfl, rfl⟩
    refine ⟨by rw [hg], 0, ?_, (Chg.refl _ _).setCell (p := ⟨r.a, 41, none⟩) hD _, fun _ => .inr (.inr (.inl ⟨h1, by omega, ?_, rfl⟩)), fun hx => by rw [hg] at hx; cases hx⟩
    · have h9 := h.set_c (s.c + 1)
      exact ⟨h9.blk.tabEq fun j _ => rfl, h9.lin, h9.wea, h9.lim, h9.far, h9.la, h9.ne1, h9.ne2, h9.ne3⟩
    · have : s.tick.c = s.c + 1 := rfl
      omega
  · refine (goes_some r s (s.ahead + 1) mk w h hc (by omega) (by omega) (by omega)).mono ?_
    rintro e w' ⟨rfl, rfl⟩
    have e1 : s.ahead + 1 - 1 = s.ahead := by omega
    rw [e1]
    have h9 := (h.set_c (s.c + 1)).set_cuts s.ahead
    refine ⟨?_, s.ahead, ⟨h9.blk.tabEq fun j _ => rfl, h9.lin, h9.wea, h9.lim, h9.far, h9.la, h9.ne1, h9.ne2, h9.ne3⟩, ((Chg.refl _ _).setCell (p := ⟨r.a, 41, none⟩) hD _).setCell (p := ⟨r.a, 38, none⟩) hD _, fun hg => ?_, fun _ => h5⟩
    · congr 2
      simp only [Nv.goes, h1, Bool.true_and]
      by_cases hz : s.ahead = 0
      · simp [hz]
      · have : ¬ s.ahead ≤ 0 := by omega
        simp [hz, this]
    · have hp : 0 < s.ahead := by
        simp [Nv.goes, h1] at hg; exact hg
      have ha : s.tick.ahead = s.ahead - 1 := by simp [Nv.tick, h1, hp]
      exact .inr (.inr (.inr ⟨h1, by omega, by omega, by omega, h5⟩))

theorem rcut_any (r : Rg) (s : Nv) (n m : Int) (w : World) (h : Rm w r s) (hc : 0 ≤ s.c) (hn : n ≤ 9223372036854775807) :
    Calls Try.prog 17 #[.pointer (some ⟨r.a, 0, none⟩), .int .i64 n, .int .i64 m] w fun e w' => e = .returned (.tuple #[]) ∧ Rm w' r (s.cutAt n m) ∧ Chg r.D w w' := by
  obtain ⟨cuts, mk, hB, _⟩ := h
  have hD : r.a ∈ r.D ∨ w.heap.size ≤ r.a := .inl (by simp [Rg.D])
  obtain ⟨_, _, _, c38, c39, _, _⟩ := hB.cells
  have z38 := hB.free 38
  have z39 := hB.free 39
  have H0 := (hB.set_cuts 0).set_mask m
  have C0 := ((Chg.refl r.D w).setCell (p := ⟨r.a, 38, none⟩) hD (.int .i64 0)).setCell (p := ⟨r.a, 39, none⟩) hD (.int .i64 m)
  by_cases h1 : 0 ≤ n ∧ n < 4611686018427387904
  · have HB := Lib.hid (H0.set_cuts (n + 1))
    have HC := Lib.hid (C0.setCell (p := ⟨r.a, 38, none⟩) hD (.int .i64 (n + 1)))
    have HF := Lib.hid (show RB _ r (s.cutAt n m) (n + 1) m from ⟨HB.out.blk.tabEq fun j _ => rfl, HB.out.lin, HB.out.wea, HB.out.lim, HB.out.far, HB.out.la, HB.out.ne1, HB.out.ne2, HB.out.ne3⟩)
    have HR : Hid (Rel (s.cutAt n m) (n + 1) m) := Lib.hid (.inr (.inr (.inr ⟨by simp [Nv.cutAt]; exact h1.1, h1.1, h1.2, rfl, rfl⟩)))
    obtain ⟨h1, h2⟩ := h1
    clear hB H0 C0 hD HB
    go_enter Try.func17, Try.ntmps17
    go_wp2
    go_end0
    exact ⟨rfl, ⟨_, _, HF.out, HR.out⟩, HC.out⟩
  · have HC := Lib.hid C0
    have HF := Lib.hid (show RB _ r (s.cutAt n m) 0 m from ⟨H0.blk.tabEq fun j _ => rfl, H0.lin, H0.wea, H0.lim, H0.far, H0.la, H0.ne1, H0.ne2, H0.ne3⟩)
    by_cases h2 : 0 ≤ n
    · have h3 : 4611686018427387904 ≤ n := by omega
      have HR : Hid (Rel (s.cutAt n m) 0 m) := Lib.hid (.inr (.inr (.inl ⟨by simp [Nv.cutAt]; exact h2, h2, by show 4611686018427387904 ≤ n + s.c; omega, rfl⟩)))
      clear hB H0 C0 hD h1
      go_enter Try.func17, Try.ntmps17
      go_wp2
      go_end0
      exact ⟨rfl, ⟨_, _, HF.out, HR.out⟩, HC.out⟩
    · have HR : Hid (Rel (s.cutAt n m) 0 m) := Lib.hid (.inr (.inl ⟨by simp [Nv.cutAt]; omega, rfl⟩))
      clear hB H0 C0 hD h1
      go_enter Try.func17, Try.ntmps17
      go_wp2
      go_end0
      exact ⟨rfl, ⟨_, _, HF.out, HR.out⟩, HC.out⟩
theorem rpower_any (r : Rg) (s : Nv) (w : World) (h : Rm w r s) :
    Calls Try.prog 19 #[.pointer (some ⟨r.a, 0, none⟩)] w fun e w' => e = .returned (.tuple #[]) ∧ Rm w' r s.power ∧ Chg r.D w w' := by
  obtain ⟨cuts, mk, hB, _⟩ := h
  have hD : r.a ∈ r.D ∨ w.heap.size ≤ r.a := .inl (by simp [Rg.D])
  obtain ⟨_, _, _, c38, _, c40, _⟩ := hB.cells
  have z38 := hB.free 38
  have z40 := hB.free 40
  have H0 := (hB.set_dark false).set_cuts 0
  have HC := Lib.hid (((Chg.refl r.D w).setCell (p := ⟨r.a, 40, none⟩) hD (.bool false)).setCell (p := ⟨r.a, 38, none⟩) hD (.int .i64 0))
  have HF := Lib.hid (show RB _ r s.power 0 mk from ⟨H0.blk.tabEq fun j _ => rfl, H0.lin, H0.wea, H0.lim, H0.far, H0.la, H0.ne1, H0.ne2, H0.ne3⟩)
  have HR : Hid (Rel s.power 0 mk) := Lib.hid (.inr (.inl ⟨rfl, rfl⟩))
  clear hB H0 hD
  go_enter Try.func19, Try.ntmps19
  go_wp2
  go_end0
  exact ⟨rfl, ⟨_, _, HF.out, HR.out⟩, HC.out⟩
theorem rreg_any (r : Rg) (s : Nv) (i : Int) (w : World) (h : Rm w r s) :
    Calls Try.prog 21 #[.pointer (some ⟨r.a, 0, none⟩), .int .i64 i] w fun e w' => e = .returned (.tuple #[.int .u64 (s.rd i), .int .i64 (s.rdy (hasR i))]) ∧ w = w' := by
  obtain ⟨cuts, mk, hB, _⟩ := h
  obtain ⟨_, _, _, _, _, c40, _⟩ := hB.cells
  by_cases h1 : 0 ≤ i ∧ i < 35
  · obtain ⟨k, rfl⟩ : ∃ k : Nat, i = k := ⟨i.toNat, by omega⟩
    have hk : k < 35 := by omega
    have hb : hasR (k : Int) = true := by simp [hasR]; omega
    cases hd : s.dark
    · have e1 : s.rdy (hasR k) = 0 := by simp [Nv.rdy, hb, hd]
      have e2 : s.rd k = s.rg k := by simp [Nv.rd, e1]
      rw [e1, e2]
      rw [hd] at c40
      have c0 := hB.regAt hk
      generalize s.rg k = x at *
      obtain ⟨h1, h2⟩ := h1
      clear hB e1 e2 hb
      go_enter Try.func21, Try.ntmps21
      go_wp2
      go_ret2
      exact ⟨rfl, rfl⟩
    · have e1 : s.rdy (hasR k) = 2 := by simp [Nv.rdy, hb, hd]
      have e2 : s.rd k = 0 := by simp [Nv.rd, e1]
      rw [e1, e2]
      rw [hd] at c40
      obtain ⟨h1, h2⟩ := h1
      clear hB e1 e2 hb
      go_enter Try.func21, Try.ntmps21
      go_wp2
      go_ret2
      exact ⟨rfl, rfl⟩
  · have hb : hasR i = false := by simp [hasR]; omega
    have e1 : s.rdy (hasR i) = 1 := by simp [Nv.rdy, hb]
    have e2 : s.rd i = 0 := by simp [Nv.rd, e1]
    rw [e1, e2]
    clear hB c40 e1 e2 hb
    by_cases h2 : i < 0
    · go_enter Try.func21, Try.ntmps21
      go_wp2
      go_ret2
      exact ⟨rfl, rfl⟩
    · have h3 : 35 ≤ i := by omega
      go_enter Try.func21, Try.ntmps21
      go_wp2
      go_ret2
      exact ⟨rfl, rfl⟩
end Go.Proofs.Ytomodoofpjgpgaa
