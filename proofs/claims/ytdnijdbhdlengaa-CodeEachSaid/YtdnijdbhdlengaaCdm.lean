/-
  Contracts of the reference: which operations may be; Encode.
-/
import Derived.Test.YtdnijdbhdlengaaCdl
namespace Go.Proofs.Ytdnijdbhdlengaa
set_option maxRecDepth 100000
open Go.RowKit

set_option maxHeartbeats 2000000 in
theorem rmayop_main (d o n m : Int) (p : Option Addr) (c : Nat) (bl : List Int) (w : World) (h : RA byE w (.slice p bl.length c) bl) (b : Bool) (hb : b = true ↔ MayC ⟨d, o, n, m, bl⟩) (h0 : bl.length ≤ 255) (h1 : 0 ≤ o ∧ o ≤ 65535) (h2 : 0 ≤ n ∧ n ≤ 65535) (h3 : 0 ≤ m ∧ m ≤ 255) :
    Calls Try.prog 10 #[.agg (pxc ⟨d, o, n, m, .slice p bl.length c, bl⟩)] w fun e w' => e = .returned (.bool b) ∧ Below w.heap.size w w' := by
  obtain ⟨W, hW⟩ : ∃ W, w.alloc (.cells (pxc ⟨d, o, n, m, .slice p bl.length c, bl⟩) 26) = W := ⟨_, rfl⟩
  have V0 : Pxv W w.heap.size ⟨d, o, n, m, .slice p bl.length c, bl⟩ := by rw [← hW]; exact Pxv.new w _
  have B0 : Below w.heap.size w W := by rw [← hW]; exact bal (Below.refl _ _)
  have HB := Lib.hid B0
  have HV := Lib.hid V0
  have HR := Lib.hid (ra_below h B0)
  have c1 := V0.c1
  have c2 := V0.c2
  have c3 : W.cell? ⟨w.heap.size, 3, none⟩ = some (.int .i64 m) := Whole.at_ V0 3
  have c4 := V0.c4
  have ld := V0.whole
  dsimp only at c1 c2 c4
  have HE : Hid (b = true ↔ dec (opB ⟨d, o, n, m, bl⟩) = [⟨d, o, n, m, bl⟩]) := Lib.hid (hb.trans (may_iff (x := ⟨d, o, n, m, bl⟩) h0 h1 h2 h3).symm)
  have HO := Lib.hid (opbytes_is d o n m p c bl W (ra_below h B0) h0)
  have hol : (opB ⟨d, o, n, m, bl⟩).length ≤ 100000 := by unfold opB; split <;> simp <;> omega
  have HOL := Lib.hid hol
  have i0 : ¬ (bl.length : Int) > 255 := by omega
  have i1 : ¬ o < 0 := by omega
  have i2 : ¬ o > 65535 := by omega
  have i3 : ¬ n < 0 := by omega
  have i4 : ¬ n > 65535 := by omega
  have i5 : ¬ m < 0 := by omega
  have i6 : ¬ m > 255 := by omega
  generalize opB ⟨d, o, n, m, bl⟩ = ob at *
  clear V0 B0 h hb h0 h1 h2 h3 hol
  go_enter Try.func10, Try.ntmps10
  go_wp2_with fail
  refine (HO.out).mono ?_; rintro e w1 ⟨⟨u, rfl, hu⟩, b1⟩
  have B1 := Lib.hid (below_more HB.out b1)
  have V1 := Lib.hid (HV.out.below b1)
  have R1 := Lib.hid (ra_below HR.out b1)
  have CD := Lib.hid (rdecode_is ob u w1 hu.ra HOL.out)
  clear b1 hu HO
  go_wp2_with fail
  refine (CD.out).mono ?_; rintro e w2 ⟨⟨u2, L, rfl, hL, eL, _⟩, b2⟩
  have B2 := Lib.hid (below_more B1.out b2)
  have V2 := Lib.hid (V1.out.below b2)
  have R2 := Lib.hid (ra_below R1.out b2)
  obtain ⟨p2, c2', rfl, _⟩ := hL.row.shape
  have HE := HE.out
  rw [← eL] at HE
  have HL := Lib.hid hL.ro
  have HEE := Lib.hid HE
  clear b2 CD hL eL HE
  by_cases hn : L.length = 1
  · obtain ⟨y, rfl⟩ := List.length_eq_one_iff.1 hn
    obtain ⟨q, off, rfl, _, hx⟩ := ro_at HL.out (by simp)
    have hx := hx 0 (by simp)
    have C := Lib.hid (show Calls Try.prog 16 #[.agg (pxc y), .agg (pxc ⟨d, o, n, m, .slice p bl.length c, bl⟩)] w2.drew _ from sameop_is (w := w2.drew) (x := y) (y := ⟨d, o, n, m, .slice p bl.length c, bl⟩) hx.2.2.2.2.2 R2.out)
    have ld1 : ∀ w', Below w2.heap.size w2 w' → (pxLoad (.pointer (some ⟨q, off, none⟩))).run Try.prog w' = .ok (.agg (pxc y)) w' := fun w' hb => by
      obtain ⟨_, _, e, _, hx⟩ := ro_at (HL.out.below hb) (by simp)
      cases e
      have := (hx 0 (by simp)).1
      simpa using this
    have ld2 : ∀ w', Below w2.heap.size w2 w' → (pxLoad (.pointer (some ⟨w.heap.size, 0, none⟩))).run Try.prog w' = .ok (.agg (pxc ⟨d, o, n, m, .slice p bl.length c, bl⟩)) w' := fun w' hb => (V2.out.below hb).whole
    have hbd : Below w2.heap.size w2 w2.drew := (Below.refl _ _).drew
    have e : decide (toC y = toC ⟨d, o, n, m, .slice p bl.length c, bl⟩) = b := by
      have := HEE.out
      rw [Bool.eq_iff_iff, decide_eq_true_iff, this]
      simp [toC]
    rw [e] at C
    clear hx hn e
    rw [show [y].length = 1 from rfl]
    go_wp2
    go_region_held3 (fun w' => Below w2.heap.size w2 w')
      (first | assumption | exact (Below.refl _ _).drew | exact hbd.trans ‹Below w2.drew.heap.size w2.drew _›)
      (first
        | (go_at_call 16; refine (C.out).mono ?_; rintro e wz ⟨rfl, hbz⟩
           have HZ := Lib.hid (hbd.trans hbz)))
    have HS := Lib.hid (below_more B2.out HZ.out)
    go_wp2
    go_ret
    exact ⟨rfl, HS.out⟩
  · obtain rfl : b = false := by
      cases b
      · rfl
      · exact absurd (by have := congrArg List.length (HEE.out.1 rfl); simpa using this) hn
    generalize L.length = M at *
    have j1 : ((M : Int) == 1) = false := beq_eq_false_iff_ne.2 (by omega)
    have j2 : (M == 1) = false := beq_eq_false_iff_ne.2 hn
    go_wp2_with fail
    go_quiet (fail)
    have HS := Lib.hid (below_drewN B2.out nq)
    go_wp2
    go_ret
    exact ⟨rfl, HS.out⟩
set_option maxHeartbeats 2000000 in
theorem rmayop_is (d o n m : Int) (p : Option Addr) (c : Nat) (bl : List Int) (w : World) (h : RA byE w (.slice p bl.length c) bl) (b : Bool) (hb : b = true ↔ MayC ⟨d, o, n, m, bl⟩) :
    Calls Try.prog 10 #[.agg (pxc ⟨d, o, n, m, .slice p bl.length c, bl⟩)] w fun e w' => e = .returned (.bool b) ∧ Below w.heap.size w w' := by
  have H0 := h
  obtain ⟨W, hW⟩ : ∃ W, w.alloc (.cells (pxc ⟨d, o, n, m, .slice p bl.length c, bl⟩) 26) = W := ⟨_, rfl⟩
  have V0 : Pxv W w.heap.size ⟨d, o, n, m, .slice p bl.length c, bl⟩ := by rw [← hW]; exact Pxv.new w _
  have B0 : Below w.heap.size w W := by rw [← hW]; exact bal (Below.refl _ _)
  have HB := Lib.hid B0
  have c1 := V0.c1
  have c2 := V0.c2
  have c3 : W.cell? ⟨w.heap.size, 3, none⟩ = some (.int .i64 m) := Whole.at_ V0 3
  have c4 := V0.c4
  dsimp only at c1 c2 c4
  clear V0 B0 h
  by_cases q0 : bl.length ≤ 255
  · have i0 : ¬ (bl.length : Int) > 255 := by omega
    by_cases q1 : 0 ≤ o
    · have i1 : ¬ o < 0 := by omega
      by_cases q2 : o ≤ 65535
      · have i2 : ¬ o > 65535 := by omega
        by_cases q3 : 0 ≤ n
        · have i3 : ¬ n < 0 := by omega
          by_cases q4 : n ≤ 65535
          · have i4 : ¬ n > 65535 := by omega
            by_cases q5 : 0 ≤ m
            · have i5 : ¬ m < 0 := by omega
              by_cases q6 : m ≤ 255
              · have i6 : ¬ m > 255 := by omega
                exact rmayop_main d o n m p c bl w H0 b hb q0 ⟨q1, q2⟩ ⟨q3, q4⟩ ⟨q5, q6⟩
              · have i6 : m > 255 := by omega
                obtain rfl : b = false := by
                  cases b
                  · rfl
                  · have h := (hb.1 rfl).ranges
                    exact absurd h.2.2.2.2 q6
                clear hb H0
                generalize bl.length = N at *
                go_enter Try.func10, Try.ntmps10
                go_wp2_with fail
                go_ret
                exact ⟨rfl, HB.out⟩
            · have i5 : m < 0 := by omega
              obtain rfl : b = false := by
                cases b
                · rfl
                · have h := (hb.1 rfl).ranges
                  exact absurd h.2.2.2.1 q5
              clear hb H0
              generalize bl.length = N at *
              go_enter Try.func10, Try.ntmps10
              go_wp2_with fail
              go_ret
              exact ⟨rfl, HB.out⟩
          · have i4 : n > 65535 := by omega
            obtain rfl : b = false := by
              cases b
              · rfl
              · have h := (hb.1 rfl).ranges
                exact absurd h.2.2.1.2 q4
            clear hb H0
            generalize bl.length = N at *
            go_enter Try.func10, Try.ntmps10
            go_wp2_with fail
            go_ret
            exact ⟨rfl, HB.out⟩
        · have i3 : n < 0 := by omega
          obtain rfl : b = false := by
            cases b
            · rfl
            · have h := (hb.1 rfl).ranges
              exact absurd h.2.2.1.1 q3
          clear hb H0
          generalize bl.length = N at *
          go_enter Try.func10, Try.ntmps10
          go_wp2_with fail
          go_ret
          exact ⟨rfl, HB.out⟩
      · have i2 : o > 65535 := by omega
        obtain rfl : b = false := by
          cases b
          · rfl
          · have h := (hb.1 rfl).ranges
            exact absurd h.2.1.2 q2
        clear hb H0
        generalize bl.length = N at *
        go_enter Try.func10, Try.ntmps10
        go_wp2_with fail
        go_ret
        exact ⟨rfl, HB.out⟩
    · have i1 : o < 0 := by omega
      obtain rfl : b = false := by
        cases b
        · rfl
        · have h := (hb.1 rfl).ranges
          exact absurd h.2.1.1 q1
      clear hb H0
      generalize bl.length = N at *
      go_enter Try.func10, Try.ntmps10
      go_wp2_with fail
      go_ret
      exact ⟨rfl, HB.out⟩
  · have i0 : (bl.length : Int) > 255 := by omega
    obtain rfl : b = false := by
      cases b
      · rfl
      · have h := (hb.1 rfl).ranges
        exact absurd h.1 q0
    clear hb H0
    generalize bl.length = N at *
    go_enter Try.func10, Try.ntmps10
    go_wp2_with fail
    go_ret
    exact ⟨rfl, HB.out⟩
end Go.Proofs.Ytdnijdbhdlengaa
