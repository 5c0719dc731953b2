/-
  The root is one that is taken, or none; what is the root cannot be given back, another one can. No conditions.
-/
import Derived.Test.YtlhpcimbigfmkaaMrt
namespace Go.Proofs.Ytlhpcimbigfmkaa.modelRoots
set_option maxRecDepth 100000
open Go.Proofs.Ytlhpcimbigfmkaa Go.ChangeShapes Go.WideShapes Go.ChangeAt Go.RowKit

theorem part16 (a : Int) : ∃ u m n : Nat, IntKind.u64.wrap a = (u : Int) ∧ (u : Int).tmod 16 = (m : Int) ∧ IntKind.i64.wrap (m : Int) = (m : Int) ∧ IntKind.i64.wrap (1 + (m : Int)) = (n : Int) ∧ 1 ≤ n ∧ n ≤ 16 := by
  obtain ⟨u, h, _⟩ := u64_nat a
  have := Nat.mod_lt u (show 0 < 16 by decide)
  exact ⟨u, u % 16, 1 + u % 16, h, tmod_nat u 16, i64_nat _ (by omega), by rw [show 1 + ((u % 16 : Nat) : Int) = ((1 + u % 16 : Nat) : Int) by omega]; exact i64_nat _ (by omega), by omega, by omega⟩

theorem no (a0 a1 a2 : Int) (w : World) (h : ¬ Mw a0) :
    Calls Try.prog 6 #[.int .i64 a0, .int .i64 a1, .int .i64 a2] w fun e w' => e = .returned (.bool true) ∧ Below w.heap.size w w' := by
  have C1 := Lib.hid (mnew_no a0 h w)
  have C2 := Lib.hid (rnew_no a0 h)
  clear h
  go_enter Try.func6, Try.ntmps6
  go_wp2_with fail
  refine (C1.out).mono ?_; rintro e w1 ⟨rfl, b1⟩
  have D1 := Lib.hid b1
  clear b1
  go_wp2_with fail
  refine (C2.out _).mono ?_; rintro e w2 ⟨rfl, rfl⟩
  go_wp2_with fail
  refine (awake_any _).mono ?_; rintro e w2 ⟨rfl, b2⟩
  have D2 := Lib.hid (below_more D1.out b2)
  go_wp2_with fail
  go_ret
  exact ⟨rfl, D2.out⟩

set_option maxHeartbeats 4000000 in
theorem first_ (N : Nat) (a1 off : Int) (w : World) (h : Mw N) (e0 : (off == 0) = true) (e8 : (off == 8) = false) :
    Calls Try.prog 6 #[.int .i64 N, .int .i64 a1, .int .i64 off] w fun e w' => e = .returned (.bool true) ∧ Below w.heap.size w w' := by
  have C1 := Lib.hid (mnew_yes N h w)
  obtain ⟨u, m, n, j0, j1, j2, j3, j4, j5⟩ := part16 a1
  obtain ⟨k, hk⟩ : ∃ k, needN n = k := ⟨_, rfl⟩
  have hk2 : 2 ≤ k ∧ k ≤ 3 := by
    rw [← hk]
    unfold needN
    split <;> omega
  have F := Lib.hid (fresh_is h hk2.1 (by have := h.1; omega))
  have S1 : Hid (srQ (crvF [⟨0, N, false⟩] (0 : Nat) k) off = 0) := Lib.hid (by
    unfold srQ
    by_cases q0 : off = 0
    · subst q0
      first | exact if_neg (fun q => q.1 rfl) | cases e0
    · by_cases q8 : off = 8
      · subst q8
        rw [F.out.yes]
        first | exact if_neg (fun q => by cases q.2) | cases e8
      · rw [F.out.no off q8]
        have q0' : (off == 0) = false := beq_eq_false_iff_ne.2 q0
        have q8' : (off == 8) = false := beq_eq_false_iff_ne.2 q8
        first
          | exact if_pos ⟨q0, rfl⟩
          | exact absurd (e0.symm.trans q0') (by decide)
          | exact absurd (e8.symm.trans q8') (by decide))
  have S2 : Hid (srQ (crvF [⟨0, N, false⟩] (0 : Nat) k) 8 = 0) := Lib.hid (by
    unfold srQ
    rw [F.out.yes]
    exact if_neg (fun q => by cases q.2))
  have S3 : Hid (feQ (crvF [⟨0, N, false⟩] (0 : Nat) k) 8 8 = 5) := Lib.hid (by
    unfold feQ
    rw [F.out.yes]
    rfl)
  have S4 : Hid (srQ (crvF [⟨0, N, false⟩] (0 : Nat) k) 0 = 0) := Lib.hid (if_neg (fun q => q.1 rfl))
  have S5 : Hid (feQ (crvF [⟨0, N, false⟩] (0 : Nat) k) 8 0 = 0 ∧ feB (crvF [⟨0, N, false⟩] (0 : Nat) k) 8 0 = [⟨0, N, false⟩]) := Lib.hid (by
    unfold feQ feB
    rw [F.out.yes]
    exact ⟨rfl, F.out.mrg⟩)
  have S6 : Hid (feQ [⟨0, N, false⟩] 8 0 = 1 ∧ feB [⟨0, N, false⟩] 8 0 = [⟨0, N, false⟩]) := Lib.hid (by
    unfold feQ feB
    rw [fresh_none]
    exact ⟨rfl, rfl⟩)
  have S7 : Hid (srQ [⟨0, N, false⟩] 8 = 1) := Lib.hid (by
    unfold srQ
    rw [fresh_none]
    exact if_pos ⟨by decide, rfl⟩)
  clear h hk2 j4 j5
  go_enter Try.func6, Try.ntmps6
  go_wp2_with fail
  refine (C1.out).mono ?_; rintro e w1 ⟨⟨g, rfl, hg, hM⟩, b1⟩
  have M1 := Lib.hid (hM [] (fun _ h => by cases h))
  have hgw : g < w1.heap.size := M1.out.dlt g (List.mem_cons_self ..)
  have D1 := Lib.hid b1
  have HG := Lib.hid (show ∀ k ∈ [g], w.heap.size ≤ k from fun k hk => by rw [List.mem_singleton.1 hk]; exact hg)
  clear b1 hg hM C1
  have C2 := Lib.hid (mofs_is n w1 M1.out)
  rw [hk, F.out.fos] at C2
  go_wp2_with fail
  refine (C2.out).mono ?_; rintro e w2 ⟨⟨v2, rfl, o2⟩, b2⟩
  have D2 := Lib.hid (below_more D1.out b2)
  have M2 := Lib.hid (M1.out.below b2)
  obtain ⟨pf, cf, rfl⟩ := o2.shape
  obtain ⟨bf, of, rfl, hbf, hcf⟩ := ri_some o2.ri (by decide)
  have cf0 : w2.cell? ⟨bf, of, none⟩ = some (.int .i64 8) := hcf 0 (by decide)
  have nf : Hid (bf ∉ [g]) := Lib.hid (fun q => by
    have := (World.ownsRow.lt o2 bf rfl).1
    rw [List.mem_singleton.1 q] at this
    omega)
  clear b2 C2 o2 hcf
  have C3 := Lib.hid (malloc_is n 8 w2 M2.out)
  rw [hk, F.out.alq, F.out.alb] at C3
  simp only [Option.isSome_some] at C3
  clear hk
  generalize alW (firstL N) k [⟨0, N, false⟩] 8 = wl1 at *
  go_wp2_with fail
  refine (C3.out).mono ?_; rintro e w3 ⟨rfl, m3, c3⟩
  have D3 := Lib.hid (below_chg D2.out c3 HG.out)
  have M3 := Lib.hid m3
  have cf3 : w3.cell? ⟨bf, of, none⟩ = some (.int .i64 8) := (World.cell?_of_block (c3.block bf hbf nf.out)).trans cf0
  clear m3 c3 C3 cf0
  have C4 := Lib.hid (msetr_is off w3 M3.out)
  rw [S1.out] at C4
  go_wp2_with fail
  refine (C4.out).mono ?_; rintro e w4 ⟨rfl, m4, c4⟩
  have D4 := Lib.hid (below_chg D3.out c4 HG.out)
  have M4 := Lib.hid m4
  clear m4 c4 C4 cf3
  have C5 := Lib.hid (msetr_is 8 w4 M4.out)
  rw [S2.out, if_pos rfl] at C5
  go_wp2_with fail
  refine (C5.out).mono ?_; rintro e w5 ⟨rfl, m5, c5⟩
  have D5 := Lib.hid (below_chg D4.out c5 HG.out)
  have M5 := Lib.hid m5
  clear m5 c5 C5
  have C6 := Lib.hid (mroot_is w5 M5.out)
  have C7 := Lib.hid (mfree_is 8 w5 M5.out)
  rw [S3.out] at C7
  go_wp2_with fail
  refine (C6.out).mono ?_; rintro e w6 ⟨rfl, rfl⟩
  go_wp2_with fail
  refine (C7.out).mono ?_; rintro e w7 ⟨rfl, m7, c7⟩
  have e7 : feW wl1 (crvF [⟨0, N, false⟩] (0 : Nat) k) 8 8 = wl1 ∧ feB (crvF [⟨0, N, false⟩] (0 : Nat) k) 8 8 = crvF [⟨0, N, false⟩] (0 : Nat) k := by
    unfold feW feB
    rw [F.out.yes]
    exact ⟨rfl, rfl⟩
  rw [e7.1, e7.2] at m7
  have D7 := Lib.hid (below_chg D5.out c7 HG.out)
  have M7 := Lib.hid m7
  clear m7 c7 C7 C6 e7
  have C8 := Lib.hid (msetr_is 0 w7 M7.out)
  rw [S4.out, if_pos rfl] at C8
  go_wp2_with fail
  refine (C8.out).mono ?_; rintro e w8 ⟨rfl, m8, c8⟩
  have D8 := Lib.hid (below_chg D7.out c8 HG.out)
  have M8 := Lib.hid m8
  clear m8 c8 C8
  have C9 := Lib.hid (mfree_is 8 w8 M8.out)
  rw [S5.out.1, S5.out.2] at C9
  generalize feW wl1 (crvF [⟨0, N, false⟩] (0 : Nat) k) 8 0 = wl2 at *
  go_wp2_with fail
  refine (C9.out).mono ?_; rintro e w9 ⟨rfl, m9, c9⟩
  have D9 := Lib.hid (below_chg D8.out c9 HG.out)
  have M9 := Lib.hid m9
  clear m9 c9 C9
  have C10 := Lib.hid (mfree_is 8 w9 M9.out)
  rw [S6.out.1, S6.out.2] at C10
  generalize feW wl2 [⟨0, N, false⟩] 8 0 = wl3 at *
  go_wp2_with fail
  refine (C10.out).mono ?_; rintro e w10 ⟨rfl, m10, c10⟩
  have D10 := Lib.hid (below_chg D9.out c10 HG.out)
  have M10 := Lib.hid m10
  clear m10 c10 C10
  have C11 := Lib.hid (msetr_is 8 w10 M10.out)
  rw [S7.out, if_neg (by decide)] at C11
  go_wp2_with fail
  refine (C11.out).mono ?_; rintro e w11 ⟨rfl, m11, c11⟩
  have D11 := Lib.hid (below_chg D10.out c11 HG.out)
  have M11 := Lib.hid m11
  clear m11 c11 C11
  have C12 := Lib.hid (mroot_is w11 M11.out)
  have C13 := Lib.hid (mobl_is w11 M11.out)
  go_wp2_with fail
  refine (C12.out).mono ?_; rintro e w12 ⟨rfl, rfl⟩
  go_wp2_with fail
  refine (C13.out).mono ?_; rintro e w13 ⟨⟨v13, rfl, o13⟩, b13⟩
  obtain ⟨p, c, rfl, _, _⟩ := o13.shape
  have D13 := Lib.hid (below_more D11.out b13)
  clear b13 o13 C12 C13
  rw [List.length_singleton]
  go_wp2_with fail
  refine (awake_any _).mono ?_; rintro e w14 ⟨rfl, b14⟩
  have D14 := Lib.hid (below_more D13.out b14)
  go_wp2_with fail
  go_ret
  exact ⟨rfl, D14.out⟩
set_option maxHeartbeats 4000000 in
theorem same_ (N : Nat) (a1 off : Int) (w : World) (h : Mw N) (e0 : (off == 0) = false) (e8 : (off == 8) = true) :
    Calls Try.prog 6 #[.int .i64 N, .int .i64 a1, .int .i64 off] w fun e w' => e = .returned (.bool true) ∧ Below w.heap.size w w' := by
  have C1 := Lib.hid (mnew_yes N h w)
  obtain ⟨u, m, n, j0, j1, j2, j3, j4, j5⟩ := part16 a1
  obtain ⟨k, hk⟩ : ∃ k, needN n = k := ⟨_, rfl⟩
  have hk2 : 2 ≤ k ∧ k ≤ 3 := by
    rw [← hk]
    unfold needN
    split <;> omega
  have F := Lib.hid (fresh_is h hk2.1 (by have := h.1; omega))
  have S1 : Hid (srQ (crvF [⟨0, N, false⟩] (0 : Nat) k) off = 0) := Lib.hid (by
    unfold srQ
    by_cases q0 : off = 0
    · subst q0
      first | exact if_neg (fun q => q.1 rfl) | cases e0
    · by_cases q8 : off = 8
      · subst q8
        rw [F.out.yes]
        first | exact if_neg (fun q => by cases q.2) | cases e8
      · rw [F.out.no off q8]
        have q0' : (off == 0) = false := beq_eq_false_iff_ne.2 q0
        have q8' : (off == 8) = false := beq_eq_false_iff_ne.2 q8
        first
          | exact if_pos ⟨q0, rfl⟩
          | exact absurd (e0.symm.trans q0') (by decide)
          | exact absurd (e8.symm.trans q8') (by decide))
  have S2 : Hid (srQ (crvF [⟨0, N, false⟩] (0 : Nat) k) 8 = 0) := Lib.hid (by
    unfold srQ
    rw [F.out.yes]
    exact if_neg (fun q => by cases q.2))
  have S3 : Hid (feQ (crvF [⟨0, N, false⟩] (0 : Nat) k) 8 8 = 5) := Lib.hid (by
    unfold feQ
    rw [F.out.yes]
    rfl)
  have S4 : Hid (srQ (crvF [⟨0, N, false⟩] (0 : Nat) k) 0 = 0) := Lib.hid (if_neg (fun q => q.1 rfl))
  have S5 : Hid (feQ (crvF [⟨0, N, false⟩] (0 : Nat) k) 8 0 = 0 ∧ feB (crvF [⟨0, N, false⟩] (0 : Nat) k) 8 0 = [⟨0, N, false⟩]) := Lib.hid (by
    unfold feQ feB
    rw [F.out.yes]
    exact ⟨rfl, F.out.mrg⟩)
  have S6 : Hid (feQ [⟨0, N, false⟩] 8 0 = 1 ∧ feB [⟨0, N, false⟩] 8 0 = [⟨0, N, false⟩]) := Lib.hid (by
    unfold feQ feB
    rw [fresh_none]
    exact ⟨rfl, rfl⟩)
  have S7 : Hid (srQ [⟨0, N, false⟩] 8 = 1) := Lib.hid (by
    unfold srQ
    rw [fresh_none]
    exact if_pos ⟨by decide, rfl⟩)
  clear h hk2 j4 j5
  go_enter Try.func6, Try.ntmps6
  go_wp2_with fail
  refine (C1.out).mono ?_; rintro e w1 ⟨⟨g, rfl, hg, hM⟩, b1⟩
  have M1 := Lib.hid (hM [] (fun _ h => by cases h))
  have hgw : g < w1.heap.size := M1.out.dlt g (List.mem_cons_self ..)
  have D1 := Lib.hid b1
  have HG := Lib.hid (show ∀ k ∈ [g], w.heap.size ≤ k from fun k hk => by rw [List.mem_singleton.1 hk]; exact hg)
  clear b1 hg hM C1
  have C2 := Lib.hid (mofs_is n w1 M1.out)
  rw [hk, F.out.fos] at C2
  go_wp2_with fail
  refine (C2.out).mono ?_; rintro e w2 ⟨⟨v2, rfl, o2⟩, b2⟩
  have D2 := Lib.hid (below_more D1.out b2)
  have M2 := Lib.hid (M1.out.below b2)
  obtain ⟨pf, cf, rfl⟩ := o2.shape
  obtain ⟨bf, of, rfl, hbf, hcf⟩ := ri_some o2.ri (by decide)
  have cf0 : w2.cell? ⟨bf, of, none⟩ = some (.int .i64 8) := hcf 0 (by decide)
  have nf : Hid (bf ∉ [g]) := Lib.hid (fun q => by
    have := (World.ownsRow.lt o2 bf rfl).1
    rw [List.mem_singleton.1 q] at this
    omega)
  clear b2 C2 o2 hcf
  have C3 := Lib.hid (malloc_is n 8 w2 M2.out)
  rw [hk, F.out.alq, F.out.alb] at C3
  simp only [Option.isSome_some] at C3
  clear hk
  generalize alW (firstL N) k [⟨0, N, false⟩] 8 = wl1 at *
  go_wp2_with fail
  refine (C3.out).mono ?_; rintro e w3 ⟨rfl, m3, c3⟩
  have D3 := Lib.hid (below_chg D2.out c3 HG.out)
  have M3 := Lib.hid m3
  have cf3 : w3.cell? ⟨bf, of, none⟩ = some (.int .i64 8) := (World.cell?_of_block (c3.block bf hbf nf.out)).trans cf0
  clear m3 c3 C3 cf0
  have C4 := Lib.hid (msetr_is off w3 M3.out)
  rw [S1.out] at C4
  go_wp2_with fail
  refine (C4.out).mono ?_; rintro e w4 ⟨rfl, m4, c4⟩
  have D4 := Lib.hid (below_chg D3.out c4 HG.out)
  have M4 := Lib.hid m4
  clear m4 c4 C4 cf3
  have C5 := Lib.hid (msetr_is 8 w4 M4.out)
  rw [S2.out, if_pos rfl] at C5
  go_wp2_with fail
  refine (C5.out).mono ?_; rintro e w5 ⟨rfl, m5, c5⟩
  have D5 := Lib.hid (below_chg D4.out c5 HG.out)
  have M5 := Lib.hid m5
  clear m5 c5 C5
  have C6 := Lib.hid (mroot_is w5 M5.out)
  have C7 := Lib.hid (mfree_is 8 w5 M5.out)
  rw [S3.out] at C7
  go_wp2_with fail
  refine (C6.out).mono ?_; rintro e w6 ⟨rfl, rfl⟩
  go_wp2_with fail
  refine (C7.out).mono ?_; rintro e w7 ⟨rfl, m7, c7⟩
  have e7 : feW wl1 (crvF [⟨0, N, false⟩] (0 : Nat) k) 8 8 = wl1 ∧ feB (crvF [⟨0, N, false⟩] (0 : Nat) k) 8 8 = crvF [⟨0, N, false⟩] (0 : Nat) k := by
    unfold feW feB
    rw [F.out.yes]
    exact ⟨rfl, rfl⟩
  rw [e7.1, e7.2] at m7
  have D7 := Lib.hid (below_chg D5.out c7 HG.out)
  have M7 := Lib.hid m7
  clear m7 c7 C7 C6 e7
  have C8 := Lib.hid (msetr_is 0 w7 M7.out)
  rw [S4.out, if_pos rfl] at C8
  go_wp2_with fail
  refine (C8.out).mono ?_; rintro e w8 ⟨rfl, m8, c8⟩
  have D8 := Lib.hid (below_chg D7.out c8 HG.out)
  have M8 := Lib.hid m8
  clear m8 c8 C8
  have C9 := Lib.hid (mfree_is 8 w8 M8.out)
  rw [S5.out.1, S5.out.2] at C9
  generalize feW wl1 (crvF [⟨0, N, false⟩] (0 : Nat) k) 8 0 = wl2 at *
  go_wp2_with fail
  refine (C9.out).mono ?_; rintro e w9 ⟨rfl, m9, c9⟩
  have D9 := Lib.hid (below_chg D8.out c9 HG.out)
  have M9 := Lib.hid m9
  clear m9 c9 C9
  have C10 := Lib.hid (mfree_is 8 w9 M9.out)
  rw [S6.out.1, S6.out.2] at C10
  generalize feW wl2 [⟨0, N, false⟩] 8 0 = wl3 at *
  go_wp2_with fail
  refine (C10.out).mono ?_; rintro e w10 ⟨rfl, m10, c10⟩
  have D10 := Lib.hid (below_chg D9.out c10 HG.out)
  have M10 := Lib.hid m10
  clear m10 c10 C10
  have C11 := Lib.hid (msetr_is 8 w10 M10.out)
  rw [S7.out, if_neg (by decide)] at C11
  go_wp2_with fail
  refine (C11.out).mono ?_; rintro e w11 ⟨rfl, m11, c11⟩
  have D11 := Lib.hid (below_chg D10.out c11 HG.out)
  have M11 := Lib.hid m11
  clear m11 c11 C11
  have C12 := Lib.hid (mroot_is w11 M11.out)
  have C13 := Lib.hid (mobl_is w11 M11.out)
  go_wp2_with fail
  refine (C12.out).mono ?_; rintro e w12 ⟨rfl, rfl⟩
  go_wp2_with fail
  refine (C13.out).mono ?_; rintro e w13 ⟨⟨v13, rfl, o13⟩, b13⟩
  obtain ⟨p, c, rfl, _, _⟩ := o13.shape
  have D13 := Lib.hid (below_more D11.out b13)
  clear b13 o13 C12 C13
  rw [List.length_singleton]
  go_wp2_with fail
  refine (awake_any _).mono ?_; rintro e w14 ⟨rfl, b14⟩
  have D14 := Lib.hid (below_more D13.out b14)
  go_wp2_with fail
  go_ret
  exact ⟨rfl, D14.out⟩
set_option maxHeartbeats 4000000 in
theorem else_ (N : Nat) (a1 off : Int) (w : World) (h : Mw N) (e0 : (off == 0) = false) (e8 : (off == 8) = false) :
    Calls Try.prog 6 #[.int .i64 N, .int .i64 a1, .int .i64 off] w fun e w' => e = .returned (.bool true) ∧ Below w.heap.size w w' := by
  have C1 := Lib.hid (mnew_yes N h w)
  obtain ⟨u, m, n, j0, j1, j2, j3, j4, j5⟩ := part16 a1
  obtain ⟨k, hk⟩ : ∃ k, needN n = k := ⟨_, rfl⟩
  have hk2 : 2 ≤ k ∧ k ≤ 3 := by
    rw [← hk]
    unfold needN
    split <;> omega
  have F := Lib.hid (fresh_is h hk2.1 (by have := h.1; omega))
  have S1 : Hid (srQ (crvF [⟨0, N, false⟩] (0 : Nat) k) off = 1) := Lib.hid (by
    unfold srQ
    by_cases q0 : off = 0
    · subst q0
      first | exact if_neg (fun q => q.1 rfl) | cases e0
    · by_cases q8 : off = 8
      · subst q8
        rw [F.out.yes]
        first | exact if_neg (fun q => by cases q.2) | cases e8
      · rw [F.out.no off q8]
        have q0' : (off == 0) = false := beq_eq_false_iff_ne.2 q0
        have q8' : (off == 8) = false := beq_eq_false_iff_ne.2 q8
        first
          | exact if_pos ⟨q0, rfl⟩
          | exact absurd (e0.symm.trans q0') (by decide)
          | exact absurd (e8.symm.trans q8') (by decide))
  have S2 : Hid (srQ (crvF [⟨0, N, false⟩] (0 : Nat) k) 8 = 0) := Lib.hid (by
    unfold srQ
    rw [F.out.yes]
    exact if_neg (fun q => by cases q.2))
  have S3 : Hid (feQ (crvF [⟨0, N, false⟩] (0 : Nat) k) 8 8 = 5) := Lib.hid (by
    unfold feQ
    rw [F.out.yes]
    rfl)
  have S4 : Hid (srQ (crvF [⟨0, N, false⟩] (0 : Nat) k) 0 = 0) := Lib.hid (if_neg (fun q => q.1 rfl))
  have S5 : Hid (feQ (crvF [⟨0, N, false⟩] (0 : Nat) k) 8 0 = 0 ∧ feB (crvF [⟨0, N, false⟩] (0 : Nat) k) 8 0 = [⟨0, N, false⟩]) := Lib.hid (by
    unfold feQ feB
    rw [F.out.yes]
    exact ⟨rfl, F.out.mrg⟩)
  have S6 : Hid (feQ [⟨0, N, false⟩] 8 0 = 1 ∧ feB [⟨0, N, false⟩] 8 0 = [⟨0, N, false⟩]) := Lib.hid (by
    unfold feQ feB
    rw [fresh_none]
    exact ⟨rfl, rfl⟩)
  have S7 : Hid (srQ [⟨0, N, false⟩] 8 = 1) := Lib.hid (by
    unfold srQ
    rw [fresh_none]
    exact if_pos ⟨by decide, rfl⟩)
  clear h hk2 j4 j5
  go_enter Try.func6, Try.ntmps6
  go_wp2_with fail
  refine (C1.out).mono ?_; rintro e w1 ⟨⟨g, rfl, hg, hM⟩, b1⟩
  have M1 := Lib.hid (hM [] (fun _ h => by cases h))
  have hgw : g < w1.heap.size := M1.out.dlt g (List.mem_cons_self ..)
  have D1 := Lib.hid b1
  have HG := Lib.hid (show ∀ k ∈ [g], w.heap.size ≤ k from fun k hk => by rw [List.mem_singleton.1 hk]; exact hg)
  clear b1 hg hM C1
  have C2 := Lib.hid (mofs_is n w1 M1.out)
  rw [hk, F.out.fos] at C2
  go_wp2_with fail
  refine (C2.out).mono ?_; rintro e w2 ⟨⟨v2, rfl, o2⟩, b2⟩
  have D2 := Lib.hid (below_more D1.out b2)
  have M2 := Lib.hid (M1.out.below b2)
  obtain ⟨pf, cf, rfl⟩ := o2.shape
  obtain ⟨bf, of, rfl, hbf, hcf⟩ := ri_some o2.ri (by decide)
  have cf0 : w2.cell? ⟨bf, of, none⟩ = some (.int .i64 8) := hcf 0 (by decide)
  have nf : Hid (bf ∉ [g]) := Lib.hid (fun q => by
    have := (World.ownsRow.lt o2 bf rfl).1
    rw [List.mem_singleton.1 q] at this
    omega)
  clear b2 C2 o2 hcf
  have C3 := Lib.hid (malloc_is n 8 w2 M2.out)
  rw [hk, F.out.alq, F.out.alb] at C3
  simp only [Option.isSome_some] at C3
  clear hk
  generalize alW (firstL N) k [⟨0, N, false⟩] 8 = wl1 at *
  go_wp2_with fail
  refine (C3.out).mono ?_; rintro e w3 ⟨rfl, m3, c3⟩
  have D3 := Lib.hid (below_chg D2.out c3 HG.out)
  have M3 := Lib.hid m3
  have cf3 : w3.cell? ⟨bf, of, none⟩ = some (.int .i64 8) := (World.cell?_of_block (c3.block bf hbf nf.out)).trans cf0
  clear m3 c3 C3 cf0
  have C4 := Lib.hid (msetr_is off w3 M3.out)
  rw [S1.out] at C4
  go_wp2_with fail
  refine (C4.out).mono ?_; rintro e w4 ⟨rfl, m4, c4⟩
  have D4 := Lib.hid (below_chg D3.out c4 HG.out)
  have M4 := Lib.hid m4
  clear m4 c4 C4 cf3
  have C5 := Lib.hid (msetr_is 8 w4 M4.out)
  rw [S2.out, if_pos rfl] at C5
  go_wp2_with fail
  refine (C5.out).mono ?_; rintro e w5 ⟨rfl, m5, c5⟩
  have D5 := Lib.hid (below_chg D4.out c5 HG.out)
  have M5 := Lib.hid m5
  clear m5 c5 C5
  have C6 := Lib.hid (mroot_is w5 M5.out)
  have C7 := Lib.hid (mfree_is 8 w5 M5.out)
  rw [S3.out] at C7
  go_wp2_with fail
  refine (C6.out).mono ?_; rintro e w6 ⟨rfl, rfl⟩
  go_wp2_with fail
  refine (C7.out).mono ?_; rintro e w7 ⟨rfl, m7, c7⟩
  have e7 : feW wl1 (crvF [⟨0, N, false⟩] (0 : Nat) k) 8 8 = wl1 ∧ feB (crvF [⟨0, N, false⟩] (0 : Nat) k) 8 8 = crvF [⟨0, N, false⟩] (0 : Nat) k := by
    unfold feW feB
    rw [F.out.yes]
    exact ⟨rfl, rfl⟩
  rw [e7.1, e7.2] at m7
  have D7 := Lib.hid (below_chg D5.out c7 HG.out)
  have M7 := Lib.hid m7
  clear m7 c7 C7 C6 e7
  have C8 := Lib.hid (msetr_is 0 w7 M7.out)
  rw [S4.out, if_pos rfl] at C8
  go_wp2_with fail
  refine (C8.out).mono ?_; rintro e w8 ⟨rfl, m8, c8⟩
  have D8 := Lib.hid (below_chg D7.out c8 HG.out)
  have M8 := Lib.hid m8
  clear m8 c8 C8
  have C9 := Lib.hid (mfree_is 8 w8 M8.out)
  rw [S5.out.1, S5.out.2] at C9
  generalize feW wl1 (crvF [⟨0, N, false⟩] (0 : Nat) k) 8 0 = wl2 at *
  go_wp2_with fail
  refine (C9.out).mono ?_; rintro e w9 ⟨rfl, m9, c9⟩
  have D9 := Lib.hid (below_chg D8.out c9 HG.out)
  have M9 := Lib.hid m9
  clear m9 c9 C9
  have C10 := Lib.hid (mfree_is 8 w9 M9.out)
  rw [S6.out.1, S6.out.2] at C10
  generalize feW wl2 [⟨0, N, false⟩] 8 0 = wl3 at *
  go_wp2_with fail
  refine (C10.out).mono ?_; rintro e w10 ⟨rfl, m10, c10⟩
  have D10 := Lib.hid (below_chg D9.out c10 HG.out)
  have M10 := Lib.hid m10
  clear m10 c10 C10
  have C11 := Lib.hid (msetr_is 8 w10 M10.out)
  rw [S7.out, if_neg (by decide)] at C11
  go_wp2_with fail
  refine (C11.out).mono ?_; rintro e w11 ⟨rfl, m11, c11⟩
  have D11 := Lib.hid (below_chg D10.out c11 HG.out)
  have M11 := Lib.hid m11
  clear m11 c11 C11
  have C12 := Lib.hid (mroot_is w11 M11.out)
  have C13 := Lib.hid (mobl_is w11 M11.out)
  go_wp2_with fail
  refine (C12.out).mono ?_; rintro e w12 ⟨rfl, rfl⟩
  go_wp2_with fail
  refine (C13.out).mono ?_; rintro e w13 ⟨⟨v13, rfl, o13⟩, b13⟩
  obtain ⟨p, c, rfl, _, _⟩ := o13.shape
  have D13 := Lib.hid (below_more D11.out b13)
  clear b13 o13 C12 C13
  rw [List.length_singleton]
  go_wp2_with fail
  refine (awake_any _).mono ?_; rintro e w14 ⟨rfl, b14⟩
  have D14 := Lib.hid (below_more D13.out b14)
  go_wp2_with fail
  go_ret
  exact ⟨rfl, D14.out⟩

theorem walk (a0 a1 a2 : Int) (w : World) (_h0 : (Lit.int .i64 a0).wf = true) (_h1 : (Lit.int .i64 a1).wf = true) (_h2 : (Lit.int .i64 a2).wf = true) :
    Calls Try.prog 6 #[.int .i64 a0, .int .i64 a1, .int .i64 a2] w fun e w' => e = .returned (.bool true) ∧ Below w.heap.size w w' := by
  by_cases h : Mw a0
  · obtain ⟨N, rfl⟩ : ∃ N : Nat, a0 = N := ⟨a0.toNat, by have := h.1; omega⟩
    cases e0 : (a2 == 0)
    · cases e8 : (a2 == 8)
      · exact else_ N a1 a2 w h e0 e8
      · exact same_ N a1 a2 w h e0 e8
    · have e8 : (a2 == 8) = false := by
        have : a2 = 0 := by simpa using e0
        subst this
        rfl
      exact first_ N a1 a2 w h e0 e8
  · exact no a0 a1 a2 w h

set_option maxRecDepth 100000 in
theorem lifted (os : Os) (started : os.Started) (H : Type) (enc : TypeId × Value → H) :
    ReturnsInHanded {} Try.checked os 6 .any (Rows.modelRootsSpec.pre6 enc Try.prog Try.f6 Rows.modelRootsRow.domain false) (Rows.modelRootsSpec.post enc Try.prog Try.f6 false true false false) := by
  refine returnsInHanded_of_change (C := Try.checked) own started (by kernel_rfl) Try.func6
    (ChangeSpec.witness6 (enc := enc) (C := Try.checked) false ⟨#[], #[.int .i64 0, .int .i64 0, .int .i64 0], []⟩ 8 (by kernel_rfl) (by kernel_rfl) (by kernel_rfl) (by kernel_rfl)) ?_
  intro W base args ds gs before hval0 hW hcnd _
  have hval : ∀ (j : Nat) t v, Try.f6.params[j]? = some t → args[j]? = some v → Value.okWide Try.prog W .any base t v := hval0
  have hW' := hW
  have hlt := hW.lt
  obtain ⟨p, q, hA0, hV, hpq, hfz, hnd⟩ := hW
  have hA : DataW.TrodAll enc Try.prog W 0 (fun _ => true) true Try.f6.params.toList args.toList ds p := hA0
  rw [Try.params6] at hA hval
  obtain ⟨v0, vs0, d0, ds0, p0, q0, hargs, rfl, hp, h0, r0⟩ := trodAll_cons hA
  obtain ⟨v1, vs1, d1, ds1, p1, q1, rfl, rfl, rfl, h1, r1⟩ := trodAll_cons r0
  obtain ⟨v2, vs2, d2, ds2, p2, q2, rfl, rfl, rfl, h2, r2⟩ := trodAll_cons r1
  obtain ⟨rfl, rfl, rfl⟩ := trodAll_nil r2
  obtain rfl : args = #[v0, v1, v2] := by cases args; simp_all
  obtain ⟨rfl, rfl⟩ := trodVars_none hV
  have hlt' : ∀ x ∈ before, x.block < W.heap.size := fun x hx => hlt x hx
  obtain ⟨a0, rfl, rfl, rfl, w0⟩ := open_int Try.underlying3 (hval 0 3 v0 rfl rfl) h0
  obtain ⟨a1, rfl, rfl, rfl, w1⟩ := open_int Try.underlying3 (hval 1 3 v1 rfl rfl) h1
  obtain ⟨a2, rfl, rfl, rfl, w2⟩ := open_int Try.underlying3 (hval 2 3 v2 rfl rfl) h2
  refine (walk a0 a1 a2 W w0 w1 w2).mono fun e W' ⟨he, hb⟩ => ?_
  subst he
  exact ⟨_, rfl, law_post rfl (by kernel_rfl) hW' (by rw [Try.params6]; intro t ht; simp only [List.mem_cons, List.not_mem_nil, or_false] at ht; (repeat' (first | (rcases ht with rfl | ht) | subst ht)) <;> exact ⟨by kernel_rfl, of_decide_eq_true (by kernel_rfl)⟩) rfl hb⟩

theorem over : Rows.modelRootsRow.holds Try.pinned (OpenSpec.ofChange Rows.modelRootsSpec) :=
  OpenClaim.holds_of_wide 6 Try.f6 rfl rfl rfl rfl rfl rfl rfl ⟨rfl, rfl, rfl, rfl, rfl⟩ rfl rfl rfl rfl rfl (by kernel_rfl) Try.func6 (by kernel_rfl)
    (of_decide_eq_true (by kernel_rfl)) (by unfold Func.isWrapper; first | (rw [if_pos (by decide +kernel)]; kernel_rfl) | (rw [if_neg (by decide +kernel)]; exact ⟨rfl, rfl⟩))
    (fun os started H enc _ => lifted os started H enc)

theorem proved : Rows.ModelRootsSaid := over
end Go.Proofs.Ytlhpcimbigfmkaa.modelRoots
