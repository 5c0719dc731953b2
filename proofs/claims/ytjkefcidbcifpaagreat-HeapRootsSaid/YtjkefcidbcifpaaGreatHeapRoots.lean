/-
  The root is kept, and can't be freed; taken away from it, it can. No conditions.
-/
import Derived.Test.YtjkefcidbcifpaaGreatZmf
namespace Go.Proofs.YtjkefcidbcifpaaGreat.heapRoots
set_option maxRecDepth 100000
open Go.Proofs.YtjkefcidbcifpaaGreat Go.ChangeShapes Go.WideShapes Go.ChangeAt Go.RowKit

set_option maxRecDepth 100000 in
set_option maxHeartbeats 8000000 in
theorem walk (c0 e0 g0 k0 : Int) (a1 a2 : Int) (w : World) (_ : (Lit.int .i64 c0).wf = true ∧ (Lit.int .i64 e0).wf = true ∧ (Lit.int .i64 g0).wf = true ∧ (Lit.int .i64 k0).wf = true) (_ : (Lit.int .i64 a1).wf = true) (w2 : (Lit.int .i64 a2).wf = true) :
    Calls Tryz.prog 10 #[(Value.agg #[Value.int IntKind.i64 c0, Value.int IntKind.i64 e0, Value.int IntKind.i64 g0, Value.int IntKind.i64 k0]), .int .i64 a1, .int .i64 a2] w fun e w' => e = .returned (.bool true) ∧ Below w.heap.size w w' := by
  obtain ⟨W, hW, H0⟩ := plan_boxed w c0 e0 g0 k0
  have PQ := Lib.hid H0.out.1
  have HB := Lib.hid H0.out.2
  have PW := Lib.hid (plan_raw c0 e0 g0 k0)
  have HWF2 := Lib.hid (i64_wf w2)
  obtain ⟨u0, hu0, _⟩ := u64_nat a1
  have m0 : u0 % 40 < 40 := Nat.mod_lt _ (by decide)
  have t0 : (u0 : Int).tmod 40 = ((u0 % 40 : Nat) : Int) := tmod_nat u0 40
  generalize u0 % 40 = n0 at *
  have kk0 : IntKind.i64.wrap (n0 : Int) = n0 := i64_nat _ (by omega)
  obtain ⟨n, hnn⟩ : ∃ x, 1 + n0 = x := ⟨_, rfl⟩
  have j0 : IntKind.i64.wrap (1 + (n0 : Int)) = (n : Int) := by rw [show 1 + (n0 : Int) = (n : Int) by omega]; exact i64_nat _ (by omega)
  have HN1 : Hid (1 ≤ n ∧ n ≤ 40) := Lib.hid (by omega)
  clear hnn m0 H0 w2
  go_enter Tryz.func10, Tryz.ntmps10
  have y0 := PQ.out.c0
  have y1 := PQ.out.c1
  have y2 : W.cell? ⟨w.heap.size, 2, none⟩ = some (.int .i64 g0) := Whole.at_ PQ.out 2
  have y3 : W.cell? ⟨w.heap.size, 3, none⟩ = some (.int .i64 k0) := Whole.at_ PQ.out 3
  go_wp2_with fail
  refine (PW.out _).mono ?_; rintro e w5 ⟨⟨N, P, per, b, rfl, hN⟩, b5⟩
  have HN := Lib.hid hN
  have PQ5 := Lib.hid (PQ.out.below b5)
  have B5 := Lib.hid (below_more HB.out b5)
  clear b5 hN y0 y1 y2 y3
  have hst := PQ5.out.pstore (l' := (N : Int)) (s' := (P : Int)) (p' := (per : Int)) (b' := (b : Int))
  have HV := Lib.hid (And.intro (PQ5.out.pput (l' := (N : Int)) (s' := (P : Int)) (p' := (per : Int)) (b' := (b : Int))) (show Below w.heap.size w (w5.setRow w.heap.size #[Value.int IntKind.i64 (N : Int), Value.int IntKind.i64 (P : Int), Value.int IntKind.i64 (per : Int), Value.int IntKind.i64 (b : Int)]) from below_row B5.out (Nat.le_refl _)))
  obtain ⟨V, hV⟩ : ∃ V, w5.setRow w.heap.size #[Value.int IntKind.i64 (N : Int), Value.int IntKind.i64 (P : Int), Value.int IntKind.i64 (per : Int), Value.int IntKind.i64 (b : Int)] = V := ⟨_, rfl⟩
  rw [hV] at hst HV
  have lV := HV.out.1.load
  have MD := Lib.hid (made_is (w := V) (N := N) (P := P) (per := per) (b := b) (v := .slice none 0 0) (lim := []) (by have := HN.out; unfold MayN; omega) (ri_nil V))
  go_wp2_with fail
  refine (MD.out).mono ?_; rintro e W0 ⟨b6, ⟨a, S, ha, rfl, hnew, hp, hi, hw, hco, hfr, hct⟩ | ⟨hl, _⟩⟩
  rotate_left
  · exact absurd rfl hl
  have BA0 := Lib.hid (below_more HV.out.2 b6)
  have H0 := Lib.hid (show Hd W0 a S 3 (firstL (8 * N : Nat)) 0 from ⟨hp, hi, hfr rfl, hw⟩)
  have LO : Hid (∀ k ∈ a.D, w.heap.size ≤ k) := Lib.hid (by
    have := HV.out.2.size
    intro k hk
    simp only [Ha.D, List.mem_cons, List.not_mem_nil, or_false] at hk
    rcases hk with rfl | rfl | rfl | rfl <;> omega)
  clear b6 hp hi hco hfr hw hct hnew ha lV hst MD
  have D1 := Lib.hid (do_take (by have := HN.out; omega) HN1.out H0.out (by decide))
  go_wp2_with fail
  refine (D1.out).mono ?_; rintro e x1 ⟨v1, S1, X1, l1, rfl, hv, hd, hc, hO⟩
  obtain ⟨W1, hW1, hst1, HA1⟩ := an_boxed x1 0 8 hv
  have H1 := Lib.hid (hd.below HA1.out.2)
  have N1 : Hid (x1.heap.size ∉ a.D) := Lib.hid fun q => Nat.lt_irrefl _ (hd.hp.dlt _ q)
  have BA1 := Lib.hid (below_more (hc.below BA0.out BA0.out.size LO.out) HA1.out.2)
  have A1_1 := Lib.hid HA1.out.1
  have HO := Lib.hid hO
  have z1 := A1_1.out.c1
  clear hv hd hc D1
  have D2 := Lib.hid (do_root8 HO.out H1.out (by decide))
  go_wp2_with fail
  refine (D2.out).mono ?_; rintro e x2 ⟨v2, S2, rfl, hv, hd, hc⟩
  obtain ⟨W2, hW2, hst2, HA2⟩ := an_boxed x2 0 0 hv
  have H2 := Lib.hid (hd.below HA2.out.2)
  have N2 : Hid (x2.heap.size ∉ a.D) := Lib.hid fun q => Nat.lt_irrefl _ (hd.hp.dlt _ q)
  have BA2 := Lib.hid (below_more (hc.below BA1.out BA1.out.size LO.out) HA2.out.2)
  have A1_2 := Lib.hid ((A1_1.out.chg hc N1.out).below HA2.out.2)
  have A2_2 := Lib.hid HA2.out.1
  have z2 := A1_2.out.c1
  clear hv hd hc D2 z1
  have D3 := Lib.hid (do_busy HO.out H2.out (by decide))
  go_wp2_with fail
  refine (D3.out).mono ?_; rintro e x3 ⟨v3, S3, rfl, hv, hd, hc⟩
  obtain ⟨W3, hW3, hst3, HA3⟩ := an_boxed x3 5 0 hv
  have H3 := Lib.hid (hd.below HA3.out.2)
  have N3 : Hid (x3.heap.size ∉ a.D) := Lib.hid fun q => Nat.lt_irrefl _ (hd.hp.dlt _ q)
  have BA3 := Lib.hid (below_more (hc.below BA2.out BA2.out.size LO.out) HA3.out.2)
  have A1_3 := Lib.hid ((A1_2.out.chg hc N1.out).below HA3.out.2)
  have A2_3 := Lib.hid ((A2_2.out.chg hc N2.out).below HA3.out.2)
  have A3_3 := Lib.hid HA3.out.1
  clear hv hd hc D3 z2
  have D4 := Lib.hid (do_get8 H3.out (by decide))
  go_wp2_with fail
  refine (D4.out).mono ?_; rintro e x4 ⟨v4, S4, rfl, hv, hd, hc, ho4⟩
  obtain ⟨W4, hW4, hst4, HA4⟩ := an_boxed x4 0 8 hv
  have H4 := Lib.hid (hd.below HA4.out.2)
  have N4 : Hid (x4.heap.size ∉ a.D) := Lib.hid fun q => Nat.lt_irrefl _ (hd.hp.dlt _ q)
  have BA4 := Lib.hid (below_more (hc.below BA3.out BA3.out.size LO.out) HA4.out.2)
  have A1_4 := Lib.hid ((A1_3.out.chg hc N1.out).below HA4.out.2)
  have A2_4 := Lib.hid ((A2_3.out.chg hc N2.out).below HA4.out.2)
  have A3_4 := Lib.hid ((A3_3.out.chg hc N3.out).below HA4.out.2)
  have A4_4 := Lib.hid HA4.out.1
  have O4 := Lib.hid (ho4.below HA4.out.2).ra
  have OWN4 : Hid (∀ k, v4.ownBlock = some k → k ∉ a.D) := Lib.hid fun k hk q => by
    have q1 := (ho4.lt k hk).1
    have q2 := H3.out.hp.dlt k q
    omega
  clear ho4
  clear hv hd hc D4
  have D5 := Lib.hid (do_rootany a2 HWF2.out HO.out H4.out (by decide))
  go_wp2_with fail
  refine (D5.out).mono ?_; rintro e x5 ⟨v5, S5, r5, rfl, hv, hd, hc⟩
  obtain ⟨W5, hW5, hst5, HA5⟩ := an_boxed x5 (if a2 = 0 ∨ a2 = 8 then 0 else 1) 0 hv
  have H5 := Lib.hid (hd.below HA5.out.2)
  have N5 : Hid (x5.heap.size ∉ a.D) := Lib.hid fun q => Nat.lt_irrefl _ (hd.hp.dlt _ q)
  have BA5 := Lib.hid (below_more (hc.below BA4.out BA4.out.size LO.out) HA5.out.2)
  have A1_5 := Lib.hid ((A1_4.out.chg hc N1.out).below HA5.out.2)
  have A2_5 := Lib.hid ((A2_4.out.chg hc N2.out).below HA5.out.2)
  have A3_5 := Lib.hid ((A3_4.out.chg hc N3.out).below HA5.out.2)
  have A4_5 := Lib.hid ((A4_4.out.chg hc N4.out).below HA5.out.2)
  have A5_5 := Lib.hid HA5.out.1
  have O5 := Lib.hid (ra_below (ra_chg O4.out hc OWN4.out) HA5.out.2)
  clear hv hd hc D5
  have SG := Lib.hid (same_get (r := 8) O5.out)
  have a1e := A1_5.out.c0
  have a1o := A1_5.out.c1
  have a2e := A2_5.out.c0
  have a3e := A3_5.out.c0
  have ld4 := A4_5.out.load
  have a5e := A5_5.out.c0
  have h3 : (a2 = 0 ∧ (if a2 = 0 ∨ a2 = 8 then (0 : Int) else 1) = 0) ∨ (a2 = 8 ∧ (if a2 = 0 ∨ a2 = 8 then (0 : Int) else 1) = 0) ∨ ((a2 == 0) = false ∧ (a2 == 8) = false ∧ a2 ≠ 0 ∧ a2 ≠ 8 ∧ (if a2 = 0 ∨ a2 = 8 then (0 : Int) else 1) = 1) := by
    by_cases q0 : a2 = 0
    · exact .inl ⟨q0, if_pos (.inl q0)⟩
    · by_cases q8 : a2 = 8
      · exact .inr (.inl ⟨q8, if_pos (.inr q8)⟩)
      · exact .inr (.inr ⟨beq_eq_false_iff_ne.2 q0, beq_eq_false_iff_ne.2 q8, q0, q8, if_neg (by omega)⟩)
  generalize hE5 : (if a2 = 0 ∨ a2 = 8 then (0 : Int) else 1) = E5 at *
  clear hE5
  rcases h3 with ⟨rfl, rfl⟩ | ⟨rfl, rfl⟩ | ⟨q0, q8, q0', q8', rfl⟩
  · go_wp2_with fail
    refine (SG.out).mono ?_; rintro e y5 ⟨rfl, by5⟩
    have HY := Lib.hid (H5.out.below by5)
    have BY := Lib.hid (below_more BA5.out by5)
    have A1_y := Lib.hid (A1_5.out.below by5)
    have a1y := A1_y.out.c1
    have a5y := (A5_5.out.below by5).c0
    clear by5 a1e a1o a2e a3e ld4 a5e SG
    have D6 := Lib.hid (do_root0 HO.out HY.out (by decide))
    go_wp2_with fail
    refine (D6.out).mono ?_; rintro e x6 ⟨v6, S6, rfl, hv, hd, hc⟩
    obtain ⟨W6, hW6, hst6, HA6⟩ := an_boxed x6 0 0 hv
    have H6 := Lib.hid (hd.below HA6.out.2)
    have N6 : Hid (x6.heap.size ∉ a.D) := Lib.hid fun q => Nat.lt_irrefl _ (hd.hp.dlt _ q)
    have BA6 := Lib.hid (below_more (hc.below BY.out BY.out.size LO.out) HA6.out.2)
    have A1_6 := Lib.hid ((A1_y.out.chg hc N1.out).below HA6.out.2)
    have A6_6 := Lib.hid HA6.out.1
    have z6 := A1_6.out.c1
    clear hv hd hc D6 a1y a5y
    have D7 := Lib.hid (do_give HO.out H6.out (by decide))
    go_wp2_with fail
    refine (D7.out).mono ?_; rintro e x7 ⟨v7, S7, X7, l7, rfl, hv, hd, hc, hB7, hO7⟩
    obtain ⟨W7, hW7, hst7, HA7⟩ := an_boxed x7 0 0 hv
    have H7 := Lib.hid (hd.below HA7.out.2)
    have N7 : Hid (x7.heap.size ∉ a.D) := Lib.hid fun q => Nat.lt_irrefl _ (hd.hp.dlt _ q)
    have BA7 := Lib.hid (below_more (hc.below BA6.out BA6.out.size LO.out) HA7.out.2)
    have A1_7 := Lib.hid ((A1_6.out.chg hc N1.out).below HA7.out.2)
    have A6_7 := Lib.hid ((A6_6.out.chg hc N6.out).below HA7.out.2)
    have A7_7 := Lib.hid HA7.out.1
    have z7 := A1_7.out.c1
    have HG := Lib.hid (And.intro hB7 hO7)
    clear hB7 hO7
    clear hv hd hc D7 z6
    have D8 := Lib.hid (do_gone HG.out.1 HG.out.2 H7.out (by decide))
    go_wp2_with fail
    refine (D8.out).mono ?_; rintro e x8 ⟨v8, S8, rfl, hv, hd, hc⟩
    obtain ⟨W8, hW8, hst8, HA8⟩ := an_boxed x8 1 0 hv
    have H8 := Lib.hid (hd.below HA8.out.2)
    have N8 : Hid (x8.heap.size ∉ a.D) := Lib.hid fun q => Nat.lt_irrefl _ (hd.hp.dlt _ q)
    have BA8 := Lib.hid (below_more (hc.below BA7.out BA7.out.size LO.out) HA8.out.2)
    have A6_8 := Lib.hid ((A6_7.out.chg hc N6.out).below HA8.out.2)
    have A7_8 := Lib.hid ((A7_7.out.chg hc N7.out).below HA8.out.2)
    have A8_8 := Lib.hid HA8.out.1
    have z8 := A6_8.out.c0
    have z9 := A7_8.out.c0
    have z10 := A8_8.out.c0
    clear hv hd hc D8 z7
    go_wp2_with fail
    refine (awake_any _).mono ?_; rintro e y9 ⟨rfl, by9⟩
    have F9 := Lib.hid (below_more BA8.out by9)
    go_wp2_with fail
    go_ret
    exact ⟨rfl, F9.out⟩
  · go_wp2_with fail
    refine (SG.out).mono ?_; rintro e y5 ⟨rfl, by5⟩
    have HY := Lib.hid (H5.out.below by5)
    have BY := Lib.hid (below_more BA5.out by5)
    have A1_y := Lib.hid (A1_5.out.below by5)
    have a1y := A1_y.out.c1
    have a5y := (A5_5.out.below by5).c0
    clear by5 a1e a1o a2e a3e ld4 a5e SG
    have D6 := Lib.hid (do_root0 HO.out HY.out (by decide))
    go_wp2_with fail
    refine (D6.out).mono ?_; rintro e x6 ⟨v6, S6, rfl, hv, hd, hc⟩
    obtain ⟨W6, hW6, hst6, HA6⟩ := an_boxed x6 0 0 hv
    have H6 := Lib.hid (hd.below HA6.out.2)
    have N6 : Hid (x6.heap.size ∉ a.D) := Lib.hid fun q => Nat.lt_irrefl _ (hd.hp.dlt _ q)
    have BA6 := Lib.hid (below_more (hc.below BY.out BY.out.size LO.out) HA6.out.2)
    have A1_6 := Lib.hid ((A1_y.out.chg hc N1.out).below HA6.out.2)
    have A6_6 := Lib.hid HA6.out.1
    have z6 := A1_6.out.c1
    clear hv hd hc D6 a1y a5y
    have D7 := Lib.hid (do_give HO.out H6.out (by decide))
    go_wp2_with fail
    refine (D7.out).mono ?_; rintro e x7 ⟨v7, S7, X7, l7, rfl, hv, hd, hc, hB7, hO7⟩
    obtain ⟨W7, hW7, hst7, HA7⟩ := an_boxed x7 0 0 hv
    have H7 := Lib.hid (hd.below HA7.out.2)
    have N7 : Hid (x7.heap.size ∉ a.D) := Lib.hid fun q => Nat.lt_irrefl _ (hd.hp.dlt _ q)
    have BA7 := Lib.hid (below_more (hc.below BA6.out BA6.out.size LO.out) HA7.out.2)
    have A1_7 := Lib.hid ((A1_6.out.chg hc N1.out).below HA7.out.2)
    have A6_7 := Lib.hid ((A6_6.out.chg hc N6.out).below HA7.out.2)
    have A7_7 := Lib.hid HA7.out.1
    have z7 := A1_7.out.c1
    have HG := Lib.hid (And.intro hB7 hO7)
    clear hB7 hO7
    clear hv hd hc D7 z6
    have D8 := Lib.hid (do_gone HG.out.1 HG.out.2 H7.out (by decide))
    go_wp2_with fail
    refine (D8.out).mono ?_; rintro e x8 ⟨v8, S8, rfl, hv, hd, hc⟩
    obtain ⟨W8, hW8, hst8, HA8⟩ := an_boxed x8 1 0 hv
    have H8 := Lib.hid (hd.below HA8.out.2)
    have N8 : Hid (x8.heap.size ∉ a.D) := Lib.hid fun q => Nat.lt_irrefl _ (hd.hp.dlt _ q)
    have BA8 := Lib.hid (below_more (hc.below BA7.out BA7.out.size LO.out) HA8.out.2)
    have A6_8 := Lib.hid ((A6_7.out.chg hc N6.out).below HA8.out.2)
    have A7_8 := Lib.hid ((A7_7.out.chg hc N7.out).below HA8.out.2)
    have A8_8 := Lib.hid HA8.out.1
    have z8 := A6_8.out.c0
    have z9 := A7_8.out.c0
    have z10 := A8_8.out.c0
    clear hv hd hc D8 z7
    go_wp2_with fail
    refine (awake_any _).mono ?_; rintro e y9 ⟨rfl, by9⟩
    have F9 := Lib.hid (below_more BA8.out by9)
    go_wp2_with fail
    go_ret
    exact ⟨rfl, F9.out⟩
  · go_wp2_with fail
    refine (SG.out).mono ?_; rintro e y5 ⟨rfl, by5⟩
    have HY := Lib.hid (H5.out.below by5)
    have BY := Lib.hid (below_more BA5.out by5)
    have A1_y := Lib.hid (A1_5.out.below by5)
    have a1y := A1_y.out.c1
    have a5y := (A5_5.out.below by5).c0
    clear by5 a1e a1o a2e a3e ld4 a5e SG
    have D6 := Lib.hid (do_root0 HO.out HY.out (by decide))
    go_wp2_with fail
    refine (D6.out).mono ?_; rintro e x6 ⟨v6, S6, rfl, hv, hd, hc⟩
    obtain ⟨W6, hW6, hst6, HA6⟩ := an_boxed x6 0 0 hv
    have H6 := Lib.hid (hd.below HA6.out.2)
    have N6 : Hid (x6.heap.size ∉ a.D) := Lib.hid fun q => Nat.lt_irrefl _ (hd.hp.dlt _ q)
    have BA6 := Lib.hid (below_more (hc.below BY.out BY.out.size LO.out) HA6.out.2)
    have A1_6 := Lib.hid ((A1_y.out.chg hc N1.out).below HA6.out.2)
    have A6_6 := Lib.hid HA6.out.1
    have z6 := A1_6.out.c1
    clear hv hd hc D6 a1y a5y
    have D7 := Lib.hid (do_give HO.out H6.out (by decide))
    go_wp2_with fail
    refine (D7.out).mono ?_; rintro e x7 ⟨v7, S7, X7, l7, rfl, hv, hd, hc, hB7, hO7⟩
    obtain ⟨W7, hW7, hst7, HA7⟩ := an_boxed x7 0 0 hv
    have H7 := Lib.hid (hd.below HA7.out.2)
    have N7 : Hid (x7.heap.size ∉ a.D) := Lib.hid fun q => Nat.lt_irrefl _ (hd.hp.dlt _ q)
    have BA7 := Lib.hid (below_more (hc.below BA6.out BA6.out.size LO.out) HA7.out.2)
    have A1_7 := Lib.hid ((A1_6.out.chg hc N1.out).below HA7.out.2)
    have A6_7 := Lib.hid ((A6_6.out.chg hc N6.out).below HA7.out.2)
    have A7_7 := Lib.hid HA7.out.1
    have z7 := A1_7.out.c1
    have HG := Lib.hid (And.intro hB7 hO7)
    clear hB7 hO7
    clear hv hd hc D7 z6
    have D8 := Lib.hid (do_gone HG.out.1 HG.out.2 H7.out (by decide))
    go_wp2_with fail
    refine (D8.out).mono ?_; rintro e x8 ⟨v8, S8, rfl, hv, hd, hc⟩
    obtain ⟨W8, hW8, hst8, HA8⟩ := an_boxed x8 1 0 hv
    have H8 := Lib.hid (hd.below HA8.out.2)
    have N8 : Hid (x8.heap.size ∉ a.D) := Lib.hid fun q => Nat.lt_irrefl _ (hd.hp.dlt _ q)
    have BA8 := Lib.hid (below_more (hc.below BA7.out BA7.out.size LO.out) HA8.out.2)
    have A6_8 := Lib.hid ((A6_7.out.chg hc N6.out).below HA8.out.2)
    have A7_8 := Lib.hid ((A7_7.out.chg hc N7.out).below HA8.out.2)
    have A8_8 := Lib.hid HA8.out.1
    have z8 := A6_8.out.c0
    have z9 := A7_8.out.c0
    have z10 := A8_8.out.c0
    clear hv hd hc D8 z7
    go_wp2_with fail
    refine (awake_any _).mono ?_; rintro e y9 ⟨rfl, by9⟩
    have F9 := Lib.hid (below_more BA8.out by9)
    go_wp2_with fail
    go_ret
    exact ⟨rfl, F9.out⟩
set_option maxRecDepth 100000 in
theorem lifted (os : Os) (started : os.Started) (H : Type) (enc : TypeId × Value → H) :
    ReturnsInHanded {} Tryz.checked os 10 .any (Rows.heapRootsSpec.pre6 enc Tryz.prog Tryz.f10 Rows.heapRootsRow.domain false) (Rows.heapRootsSpec.post enc Tryz.prog Tryz.f10 false true false false) := by
  refine returnsInHanded_of_change (C := Tryz.checked) own started (by kernel_rfl) Tryz.func10
    (ChangeSpec.witness6 (enc := enc) (C := Tryz.checked) false ⟨#[], #[.agg #[.int .i64 0, .int .i64 0, .int .i64 0, .int .i64 0], .int .i64 0, .int .i64 0], []⟩ 8 (by kernel_rfl) (by kernel_rfl) (by kernel_rfl) (by kernel_rfl)) ?_
  intro W base args ds gs before hval0 hW hcnd _
  have hval : ∀ (j : Nat) t v, Tryz.f10.params[j]? = some t → args[j]? = some v → Value.okWide Tryz.prog W .any base t v := hval0
  have hW' := hW
  have hlt := hW.lt
  obtain ⟨p, q, hA0, hV, hpq, hfz, hnd⟩ := hW
  have hA : DataW.TrodAll enc Tryz.prog W 0 (fun _ => true) true Tryz.f10.params.toList args.toList ds p := hA0
  rw [Tryz.params10] at hA hval
  obtain ⟨v0, vs0, d0, ds0, p0, q0, hargs, rfl, hp, h0, r0⟩ := trodAll_cons hA
  obtain ⟨v1, vs1, d1, ds1, p1, q1, rfl, rfl, rfl, h1, r1⟩ := trodAll_cons r0
  obtain ⟨v2, vs2, d2, ds2, p2, q2, rfl, rfl, rfl, h2, r2⟩ := trodAll_cons r1
  obtain ⟨rfl, rfl, rfl⟩ := trodAll_nil r2
  obtain rfl : args = #[v0, v1, v2] := by cases args; simp_all
  obtain ⟨rfl, rfl⟩ := trodVars_none hV
  have hlt' : ∀ x ∈ before, x.block < W.heap.size := fun x hx => hlt x hx
  obtain ⟨c0, e0, g0, k0, rfl, w0⟩ := plan_in (hval 0 23 v0 rfl rfl) h0
  obtain ⟨a1, rfl, rfl, rfl, w1⟩ := open_int Tryz.underlying3 (hval 1 3 v1 rfl rfl) h1
  obtain ⟨a2, rfl, rfl, rfl, w2⟩ := open_int Tryz.underlying3 (hval 2 3 v2 rfl rfl) h2
  refine (walk c0 e0 g0 k0 a1 a2 W w0 w1 w2).mono fun e W' ⟨he, hb⟩ => ?_
  subst he
  exact ⟨_, rfl, law_post rfl (by kernel_rfl) hW' (by rw [Tryz.params10]; intro t ht; simp only [List.mem_cons, List.not_mem_nil, or_false] at ht; (repeat' (first | (rcases ht with rfl | ht) | subst ht)) <;> exact ⟨by kernel_rfl, of_decide_eq_true (by kernel_rfl)⟩) rfl hb⟩

theorem over : Rows.heapRootsRow.holds Tryz.pinned (OpenSpec.ofChange Rows.heapRootsSpec) :=
  OpenClaim.holds_of_wide 10 Tryz.f10 rfl rfl rfl rfl rfl rfl rfl ⟨rfl, rfl, rfl, rfl, rfl⟩ rfl rfl rfl rfl rfl (by kernel_rfl) Tryz.func10 (by kernel_rfl)
    (of_decide_eq_true (by kernel_rfl)) (by unfold Func.isWrapper; first | (rw [if_pos (by decide +kernel)]; kernel_rfl) | (rw [if_neg (by decide +kernel)]; exact ⟨rfl, rfl⟩))
    (fun os started H enc _ => lifted os started H enc)

theorem proved : Rows.HeapRootsSaid := over
end Go.Proofs.YtjkefcidbcifpaaGreat.heapRoots
