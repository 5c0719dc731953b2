/-
  Opened anew without a cut a heap is the same; its counts lag by less than a batch and never lead; what is no heap is refused. No conditions.
-/
import Derived.Test.YtjkefcidbcifpaaGreatZnf
namespace Go.Proofs.YtjkefcidbcifpaaGreat.heapOpens
set_option maxRecDepth 100000
open Go.Proofs.YtjkefcidbcifpaaGreat Go.ChangeShapes Go.WideShapes Go.ChangeAt Go.RowKit
set_option maxRecDepth 100000 in
set_option maxHeartbeats 8000000 in
theorem walk (c0 e0 g0 k0 : Int) (l1 : List Px) (v1 : Value) (w : World) (_ : (Lit.int .i64 c0).wf = true ∧ (Lit.int .i64 e0).wf = true ∧ (Lit.int .i64 g0).wf = true ∧ (Lit.int .i64 k0).wf = true) (w1 : RA (opE w) w v1 l1) :
 Calls Tryz.prog 5 #[(Value.agg #[Value.int IntKind.i64 c0, Value.int IntKind.i64 e0, Value.int IntKind.i64 g0, Value.int IntKind.i64 k0]), v1] w fun e w' => e = .returned (.bool true) ∧ Below w.heap.size w w' := by
 obtain ⟨W, hW, H0⟩ := plan_boxed w c0 e0 g0 k0
 have PQ := Lib.hid H0.out.1
 have HB := Lib.hid H0.out.2
 obtain ⟨p1, q1, rfl, _⟩ := ra_shape w1
 have W1 := Lib.hid w1
 have HV1 := Lib.hid (heavy21b l1 [] _ (.slice none 0 0) (ra_below w1 HB.out) (ri_nil W))
 have PW := Lib.hid (plan_raw c0 e0 g0 k0)
 clear w1 H0
 go_enter Tryz.func5, Tryz.ntmps5
 go_wp2_with fail
 refine (HV1.out).mono ?_; rintro e w4 ⟨⟨R, rfl, hr1, hl1⟩, b4⟩
 have B4 := Lib.hid b4
 clear b4
 by_cases h0 : R = 0
 rotate_left
 · have i1 : (R : Int) > 0 := by omega
   have i2 : 0 < R := by omega
   clear h0 hr1 hl1
   go_wp2_with fail
   refine (awake_any _).mono ?_; rintro e w5 ⟨rfl, b5⟩
   have D5 := Lib.hid (below_more HB.out (below_more B4.out b5))
   go_wp2_with fail
   go_ret
   exact ⟨rfl, D5.out⟩
 have L1 := Lib.hid (hl1 (by omega))
 have i1 : ¬ (R : Int) > 0 := by omega
 have i2 : ¬ 0 < R := by omega
 have PQ4 := Lib.hid (PQ.out.below B4.out)
 have a0 := PQ4.out.c0
 have a1 := PQ4.out.c1
 have a2 : w4.cell? ⟨w.heap.size, 2, none⟩ = some (.int .i64 g0) := Whole.at_ PQ4.out 2
 have a3 : w4.cell? ⟨w.heap.size, 3, none⟩ = some (.int .i64 k0) := Whole.at_ PQ4.out 3
 clear h0 hr1 hl1 HV1
 go_wp2_with fail
 refine (PW.out _).mono ?_; rintro e w5 ⟨⟨N, P, per, b, rfl, hN⟩, b5⟩
 have HN := Lib.hid hN
 have PQ5 := Lib.hid (PQ4.out.below b5)
 have B5 := Lib.hid (below_more HB.out (below_more B4.out b5))
 clear b5 hN a0 a1 a2 a3
 have hst := PQ5.out.pstore (l' := (N : Int)) (s' := (P : Int)) (p' := (per : Int)) (b' := (b : Int))
 have HV := Lib.hid (And.intro (PQ5.out.pput (l' := (N : Int)) (s' := (P : Int)) (p' := (per : Int)) (b' := (b : Int))) (show Below w.heap.size w (w5.setRow w.heap.size #[Value.int IntKind.i64 (N : Int), Value.int IntKind.i64 (P : Int), Value.int IntKind.i64 (per : Int), Value.int IntKind.i64 (b : Int)]) from below_row B5.out (Nat.le_refl _)))
 obtain ⟨V, hV⟩ : ∃ V, w5.setRow w.heap.size #[Value.int IntKind.i64 (N : Int), Value.int IntKind.i64 (P : Int), Value.int IntKind.i64 (per : Int), Value.int IntKind.i64 (b : Int)] = V := ⟨_, rfl⟩
 rw [hV] at hst HV
 have lV := HV.out.1.load
 have MD := Lib.hid (made_is (w := V) (N := N) (P := P) (per := per) (b := b) (v := .slice none 0 0) (lim := []) (by have := HN.out; unfold MayN; omega) (ri_nil V))
 go_wp2_with fail
 refine (MD.out).mono ?_; rintro e w6 ⟨b6, ⟨a, S, ha, rfl, hnew, hp, hi, hw, hco, hfr, hct⟩ | ⟨hl, _⟩⟩
 rotate_left
 · exact absurd rfl hl
 have B6 := Lib.hid b6
 have H6 := Lib.hid (And.intro hp (And.intro hi (And.intro hco (And.intro (hfr rfl) hw))))
 have HA := Lib.hid ha
 have LO : Hid (∀ k ∈ a.D, V.heap.size ≤ k) := Lib.hid (by
  intro k hk
  simp only [Ha.D, List.mem_cons, List.not_mem_nil, or_false] at hk
  rcases hk with rfl | rfl | rfl | rfl <;> omega)
 have a0 := (HV.out.1.below b6).c0
 clear b6 hp hi hco hfr hw hct hnew ha lV hst MD
 have i8 : IntKind.i64.wrap ((N : Int) * 8) = ((8 * N : Nat) : Int) := by rw [show (N : Int) * 8 = ((8 * N : Nat) : Int) by omega]; exact i64_nat _ (by have := HN.out; omega)
 have C7 := Lib.hid (rnew_yes (8 * N) (by have := HN.out; unfold Mw; omega) w6)
 go_wp2_with fail
 refine (C7.out).mono ?_; rintro e w7 ⟨⟨g, rfl, hg, _, hR⟩, b7⟩
 have HR7 := Lib.hid (hrun_new (w0 := V) (fr := true) H6.out.1 H6.out.2.1 H6.out.2.2.1 (fun _ => H6.out.2.2.2) LO.out B6.out.size hg b7 B6.out hR)
 clear hR hg b7 C7 i8 a0 H6 B6 LO
 have HL1 := Lib.hid L1.out.len
 go_wp2
 go_loopw [48] (fun i wr => ∃ k : Nat, k ≤ l1.length ∧ i = .int .i64 k ∧ Hid (∃ S X r lb, HRun V wr a g (3 + k) true S X r lb)) (fun i _ => l1.length - (intOf i).toNat)
 case atStart => exact ⟨0, Nat.zero_le _, rfl, Lib.hid ⟨_, _, _, _, HR7.out⟩⟩
 case round =>
  clear HR7
  obtain ⟨k, hk, rfl, H⟩ := hrel
  by_cases hlt : k < l1.length
  · obtain ⟨S1, X1, r1, lb1, hrun⟩ := H.out
    obtain ⟨bb, off, hpp, _, hx⟩ := px_at (ra_below W1.out (below_more HV.out.2 hrun.b)) (by omega)
    subst hpp
    obtain ⟨hld, hwf⟩ := hx k hlt
    have hbl := L1.out.bl k hlt
    have i0 : (0 : Int) ≤ (k : Int) := by omega
    have i1 : (k : Int) < (l1.length : Int) := by omega
    have i3 : ¬ (k : Int) < 0 := by omega
    have i4 : IntKind.i64.wrap ((k : Int) + 1) = ((k + 1 : Nat) : Int) := by rw [show (k : Int) + 1 = ((k + 1 : Nat) : Int) by omega]; exact i64_nat _ (by have := HL1.out; omega)
    have HK := Lib.hid hlt
    clear hx hk hlt
    generalize l1.getD k default = x at *
    obtain ⟨W9, hW9, hst, HB9⟩ := px_boxed wr x hwf.one
    have R9 := Lib.hid (hrun.below HB9.out.2)
    have C := Lib.hid (R9.out.step x (by have := HK.out; have := HL1.out; omega) (hwf.up_h HV.out.2) (by omega))
    have ldx : (pxLoad (.pointer (some ⟨wr.heap.size, 0, none⟩))).run Tryz.prog W9 = .ok (.agg (pxc x)) W9 := run_pxLoad fun j u hj => by rw [Whole.at_ HB9.out.1, Nat.zero_add, ← hj]; simp [pxc]
    clear hrun hwf hbl H
    go_wp2_with fail
    refine (C.out).mono ?_; rintro e w' ⟨rfl, _, S', X', r', lb', h', _⟩
    have HN1 : Hid (∃ S X r lb, HRun V w' a g (3 + (k + 1)) true S X r lb) := Lib.hid ⟨_, _, _, _, h'⟩
    clear h' C
    go_wp2
    go_roundw
    case rel => exact ⟨k + 1, by have := HK.out; omega, by go_num, HN1⟩
    case measure => have := HK.out; simp [intOf]; omega
  · obtain rfl : k = l1.length := by omega
    obtain ⟨S1, X1, r1, lb1, hrun⟩ := H.out
    have R1 := Lib.hid hrun
    have LK : Hid (lk S1.s = 0) := Lib.hid (by
     have h := (hrun.fr rfl).2
     unfold Hs.worn at h
     simpa using (Bool.or_eq_false_iff.1 h).2)
    have CO := Lib.hid (hopen_hc (a := a) hrun.hi.num hrun.hi.hc (by have := HL1.out; omega) hrun.hi.live hrun.hp.hb.lg.nm)
    rw [HA.out.1, HA.out.2.1, HA.out.2.2.1, HA.out.2.2.2] at CO
    have lP := (HV.out.1.below hrun.b).load
    clear hrun H hk hlt
    go_wp2_with fail
    refine (CO.out).mono ?_; rintro e w8 ⟨c8, ⟨a2, S2, rfl, ⟨e1, e2, e3, e4, e5⟩, hnew2, hp2, hi2, hwf2, hla, hco2, hn2, hs2, hfr2, hct2⟩ | ⟨_, hco, _⟩⟩
    rotate_left
    · rw [R1.out.co] at hco; cases hco
    have hs : S2.s = S1.s := hs2 LK.out
    have G8 : Hid (Hp w8 a S1 ∧ Hp w8 a2 S2 ∧ HI a2 S2 (3 + l1.length + 1) X1 r1 ∧ S2.s = S1.s ∧ S2.s.comes = false) := Lib.hid ⟨R1.out.hp.mem c8 (by have := hp2.hb.lg.nm; rw [e1, hs] at this; exact this), hp2, hi2, hs, hco2.trans R1.out.co⟩
    have RM := Lib.hid (R1.out.rm.chg c8 (fun k hk => by rw [List.mem_singleton.1 hk]; simp [Ha.D]) (fun h => R1.out.hg (by rw [List.mem_singleton.1 h]; simp [Ha.D])))
    have EA := Lib.hid (And.intro e1 (And.intro e2 (And.intro e3 (And.intro e4 e5))))
    have CT2 := Lib.hid hct2
    have B8 : Hid (Below V.heap.size V w8) := Lib.hid (c8.below R1.out.b R1.out.b.size (fun k hk => R1.out.lo k (by rw [List.mem_singleton.1 hk]; simp [Ha.D])))
    have HI1 := Lib.hid R1.out.hi
    have CS := Lib.hid (says_is hp2 hi2 (by have := HL1.out; omega) (hco2.trans R1.out.co) RM.out)
    clear c8 e1 e2 e3 e4 e5 hnew2 hp2 hi2 hwf2 hla hco2 hn2 hs2 hfr2 hct2 CO hs RM lP
    go_wp2_with fail
    refine (CS.out).mono ?_; rintro e w9 ⟨rfl, b9⟩
    have B9 := Lib.hid (below_more B8.out b9)
    have P9 := Lib.hid (G8.out.1.below b9)
    have Q9 := Lib.hid (G8.out.2.1.below b9)
    clear b9 CS
    have M1 := Lib.hid (hmov_is Q9.out G8.out.2.2.1.hc.lg G8.out.2.2.1.live)
    rw [G8.out.2.2.2.1] at M1
    have M2 := Lib.hid (fun w' (q : Hp w' a S1) => hmov_is q HI1.out.hc.lg HI1.out.live)
    obtain ⟨T, hT⟩ : ∃ T, tm S1.s = T := ⟨_, rfl⟩
    rw [hT] at M1 M2
    have HT := Lib.hid hT
    clear hT
    go_wp2_with fail
    refine (M1.out).mono ?_; rintro e wz ⟨rfl, rfl⟩
    go_wp2_with fail
    refine (M2.out _ P9.out).mono ?_; rintro e wz ⟨rfl, rfl⟩
    clear M1
    obtain ⟨n, hn⟩ : ∃ n, (N + 3) / 4 = n := ⟨_, rfl⟩
    have NN : Hid (S1.ct.n = n ∧ S2.ct.n = n ∧ n ≤ 16) := Lib.hid (by
     have h1 := HI1.out.cn
     have h2 := G8.out.2.2.1.cn
     rw [EA.out.2.1] at h2
     rw [HA.out.1] at h1 h2
     have := HN.out
     omega)
    have K1 := Lib.hid (hcnt_is P9.out (by have := NN.out; omega))
    have K2 := Lib.hid (fun w' (q : Hp w' a2 S2) => hcnt_is q (by have := NN.out; omega))
    have VAL : Hid (∀ q, q < n → S2.ct.c q ≤ S1.ct.c q ∧ S1.ct.c q < S2.ct.c q + b) := Lib.hid fun q hq => by
     have h1 := CT2.out q (by rw [HA.out.1]; omega)
     have h2 := HI1.out.kp q (by have := NN.out; omega)
     have h3 := HI1.out.ct.le q (by have := NN.out; omega)
     have h4 := HI1.out.ct.lag q (by have := NN.out; omega)
     have h5 := HI1.out.cb
     rw [HA.out.2.2.2] at h5
     rw [h1] at h2
     omega
    have CM : Hid (∀ q, q < n → S1.ct.c q ≤ 14000) := Lib.hid fun q hq => by
     have := HI1.out.cm q (by have := NN.out; omega)
     have := HL1.out
     omega
    clear hn CT2
    go_wp2_with fail
    refine (K1.out).mono ?_; rintro e w10 ⟨⟨v10, rfl, o10⟩, b10⟩
    have B10 := Lib.hid (below_more B9.out b10)
    have P10 := Lib.hid (P9.out.below b10)
    have Q10 := Lib.hid (Q9.out.below b10)
    have O10 := Lib.hid o10
    obtain ⟨q10, n10, rfl, _⟩ := o10.ri
    clear b10 o10 K1 P9 Q9 B9
    go_wp2_with fail
    refine (K2.out _ Q10.out).mono ?_; rintro e w11 ⟨⟨v11, rfl, o11⟩, b11⟩
    have B11 := Lib.hid (below_more B10.out b11)
    have P11 := Lib.hid (P10.out.below b11)
    have O10b := Lib.hid (OwnI.below_h O10.out b11)
    have O11 := Lib.hid o11
    obtain ⟨q11, n11, rfl, _⟩ := o11.ri
    clear b11 o11 K2 P10 Q10 B10 O10
    have l1e : S1.ct.ints.length = n := (byF_length _ _).trans NN.out.1
    have l2e : S2.ct.ints.length = n := (byF_length _ _).trans NN.out.2.1
    rw [l1e] at O10b ⊢
    rw [l2e] at O11 ⊢
    have LE := Lib.hid (And.intro l1e l2e)
    clear l1e l2e
    go_wp2
    go_loopw [94] (fun i wr => ∃ j : Nat, j ≤ n ∧ i = .int .i64 j ∧ Hid (Below w11.heap.size w11 wr)) (fun i _ => n - (intOf i).toNat)
    case atStart => exact ⟨0, Nat.zero_le _, rfl, Lib.hid (Below.refl _ _)⟩
    case round =>
     obtain ⟨j, hj, rfl, HJ⟩ := hrel
     by_cases hlt : j < n
     · have b0 : (0 : Int) ≤ (j : Int) := by omega
       have b1 : (j : Int) < (n : Int) := by omega
       have b3 : ¬ (j : Int) < 0 := by omega
       have b4 : IntKind.i64.wrap ((j : Int) + 1) = ((j + 1 : Nat) : Int) := by rw [show (j : Int) + 1 = ((j + 1 : Nat) : Int) by omega]; exact i64_nat _ (by have := NN.out; omega)
       have KJ := Lib.hid hlt
       obtain ⟨g10, c10, hq10, _, _⟩ := hi_block O10b.out (by have := LE.out; omega)
       obtain ⟨g11, c11, hq11, _, _⟩ := hi_block O11.out (by have := LE.out; omega)
       rw [LE.out.1] at hq10
       rw [LE.out.2] at hq11
       cases hq10
       cases hq11
       have v1e : S1.ct.ints.getD j 0 = (S1.ct.c j : Int) := byF_getD _ (by have := NN.out; omega)
       have v2e : S2.ct.ints.getD j 0 = (S2.ct.c j : Int) := byF_getD _ (by have := NN.out; omega)
       have d1 : wr.cell? ⟨g10, j, none⟩ = some (.int .i64 (S1.ct.c j : Int)) := by
        have := (hi_cells LE.out.1.symm (OwnI.below_h O10b.out HJ.out) (j := j) (by have := LE.out; omega)).1
        rw [v1e] at this; exact this
       have d2 : wr.cell? ⟨g11, j, none⟩ = some (.int .i64 (S2.ct.c j : Int)) := by
        have := (hi_cells LE.out.2.symm (OwnI.below_h O11.out HJ.out) (j := j) (by have := LE.out; omega)).1
        rw [v2e] at this; exact this
       have hv := VAL.out j hlt
       have hm := CM.out j hlt
       have d3 : wr.cell? ⟨w.heap.size, 3, none⟩ = some (.int .i64 (b : Int)) := Whole.at_ (HV.out.1.below (below_more B11.out HJ.out)) 3
       generalize S1.ct.c j = u at *
       generalize S2.ct.c j = v at *
       have y1 : ¬ (v : Int) > (u : Int) := by omega
       have y2 : ¬ (u : Int) < (v : Int) := by omega
       have y3 : IntKind.i64.wrap ((u : Int) - (v : Int)) = ((u - v : Nat) : Int) := by rw [show (u : Int) - (v : Int) = ((u - v : Nat) : Int) by omega]; exact i64_nat _ (by omega)
       obtain ⟨D, hD⟩ : ∃ D, u - v = D := ⟨_, rfl⟩
       rw [hD] at y3
       have y4 : ¬ (D : Int) ≥ (b : Int) := by omega
       have y5 : ¬ (b : Int) ≤ (D : Int) := by omega
       have y6 : decide (u < v) = false := decide_eq_false (by omega)
       have y7 : decide (b ≤ D) = false := decide_eq_false (by omega)
       clear hj hlt hv hm hD v1e v2e
       go_wp2_with fail
       go_quiet (fail)
       have HJ2 : Hid (Below w11.heap.size w11 (wr.drewN nq)) := Lib.hid (below_drewN HJ.out nq)
       clear d1 d2 d3
       generalize wr.drewN nq = wr2 at *
       go_wp2
       go_roundw
       case rel => exact ⟨j + 1, by have := KJ.out; omega, by go_num, HJ2⟩
       case measure => have := KJ.out; simp [intOf]; omega
     · obtain rfl : j = n := by omega
       have BF := Lib.hid (below_more B11.out HJ.out)
       have PF := Lib.hid (P11.out.below HJ.out)
       clear hj hlt HJ O10b O11 P11 B11 G8
       go_wp2_with fail
       refine (M2.out _ PF.out).mono ?_; rintro e wz ⟨rfl, rfl⟩
       obtain ⟨wf, hwf⟩ : ∃ wf, wf = wr := ⟨_, rfl⟩
       have SN : Hid (S1.s.n = 16 + a.N + 1 + a.P) := Lib.hid (by have := HI1.out.hc.lg.g.nn; omega)
       by_cases hT0 : T = 0
       · subst hwf
         have y1 : ¬ (T : Int) > 0 := by omega
         have y2 : ¬ (0 : Int) < (T : Int) := by omega
         clear hT0 M2
         obtain ⟨V1, hV1⟩ : ∃ V1, wf.alloc (.cells #[.int .i64 0, .int .i64 0, .int .i64 0, .int .i64 0] 23) = V1 := ⟨_, rfl⟩
         have P0 : Pq V1 wf.heap.size 0 0 0 0 := by rw [← hV1]; exact heap_alloc_new wf _
         have hst2 := P0.pstore (l' := (N : Int)) (s' := (P : Int)) (p' := (per : Int)) (b' := (b : Int))
         obtain ⟨V2, hV2⟩ : ∃ V2, V1.setRow wf.heap.size #[Value.int IntKind.i64 (N : Int), Value.int IntKind.i64 (P : Int), Value.int IntKind.i64 (per : Int), Value.int IntKind.i64 (b : Int)] = V2 := ⟨_, rfl⟩
         have P2 : Pq V2 wf.heap.size (N : Int) (P : Int) (per : Int) (b : Int) := by rw [← hV2]; exact P0.pput
         have BV2 : Below wf.heap.size wf V2 := by rw [← hV2, ← hV1]; exact below_row (bal (Below.refl _ _)) (Nat.le_refl _)
         rw [hV2] at hst2
         have z1 : IntKind.i64.wrap ((N : Int) + 1) = (N : Int) + 1 := by rw [show (N : Int) + 1 = ((N + 1 : Nat) : Int) by omega]; exact i64_nat _ (by have := HN.out; omega)
         obtain ⟨V3, hV3⟩ : ∃ V3, V2.setCell ⟨wf.heap.size, 0, none⟩ (.int .i64 ((N : Int) + 1)) = V3 := ⟨_, rfl⟩
         have P3 : Pq V3 wf.heap.size ((N : Int) + 1) (P : Int) (per : Int) (b : Int) := by rw [← hV3]; exact Whole.set_ P2 0 _
         have BV3 : Below wf.heap.size wf V3 := by rw [← hV3]; exact BV2.setCell (p := ⟨wf.heap.size, 0, none⟩) (Nat.le_refl _) _
         have z2 : V2.cell? ⟨wf.heap.size, 0, none⟩ = some (.int .i64 (N : Int)) := Whole.at_ P2 0
         have z3 := Whole.free P2 0
         have lP := (HV.out.1.below BF.out).load
         have l3 := P3.load
         have C1 := Lib.hid (hopen_other (PF.out.hb.lg.nm.below BV3) SN.out)
         rw [HA.out.1, HA.out.2.1, HA.out.2.2.1, HA.out.2.2.2] at C1
         have BG := Lib.hid (below_more BF.out BV3)
         clear P0 P2 P3 BV2 BV3
         go_wp2_with fail
         refine (C1.out).mono ?_; rintro e x1 ⟨rfl, bx1⟩
         have B1 := Lib.hid (below_more BG.out bx1)
         have lP1 := (HV.out.1.below B1.out).load
         clear bx1 C1 lP l3 hst2 z2 z3
         go_wp2_with fail
         refine (hopen_nil _ _ _ _).mono ?_; rintro e x2 ⟨rfl, bx2⟩
         have B2 := Lib.hid (below_more B1.out bx2)
         have lP2 : ∀ w', Kept (Below x2.heap.size x2 w') → (planLoad (.pointer (some ⟨w.heap.size, 0, none⟩))).run Tryz.prog w' = .ok (Value.agg #[Value.int IntKind.i64 (N : Int), Value.int IntKind.i64 (P : Int), Value.int IntKind.i64 (per : Int), Value.int IntKind.i64 (b : Int)]) w' := fun w' hb => (HV.out.1.below (below_more B2.out hb.out)).load
         have MN : Hid (MayN N P per b) := Lib.hid (by have := HN.out; unfold MayN; omega)
         have C2 := Lib.hid (fun w' => device_yes MN.out (v := 16 + N + 1 + P) (by omega) w')
         have C3 := Lib.hid (fun w' => new_yes (16 + N + 1 + P) (.slice none 0 0) [] w' (by have := HN.out; omega) (by have := HN.out; omega) (ri_nil w'))
         have C4 := Lib.hid (fun w' g' (q : Nm w' g' (newNv (16 + N + 1 + P) [])) => hopen_blank (a := ⟨0, g', 0, 0, 0, 0, 0, N, P, per, b⟩) ⟨MN.out.1, MN.out.2.1, MN.out.2.2.1, MN.out.2.2.2⟩ q)
         clear bx2 lP1 B1
         go_wp2
         go_region_held3 (fun w' => Kept (Below x2.heap.size x2 w'))
          (first | assumption | exact ⟨(Below.refl _ _).drew⟩)
          (first
            | (go_at_call 33; refine (C4.out _ _ N3.out).mono ?_; rintro e x5 ⟨rfl, c5⟩
               have B5 := Lib.hid (below_more B2.out (c5.below (S2'.out) S2'.out.size (fun k hk => by rw [List.mem_singleton.1 hk]; exact S3.out)))
               have K5 : Kept (Below x2.heap.size x2 x5) := ⟨c5.below S2'.out S2'.out.size (fun k hk => by rw [List.mem_singleton.1 hk]; exact S3.out)⟩
               clear c5)
            | (go_at_call 38; refine (C2.out _).mono ?_; rintro e x3 ⟨rfl, b3⟩
               have K3 : Kept (Below x2.heap.size x2 x3) := ⟨below_more (Below.refl _ _).drew b3⟩
               clear b3)
            | (go_at_call 37; refine (C3.out _).mono ?_; rintro e x4 ⟨g4, rfl, hg4, hN4, b4⟩
               have N3 := Lib.hid hN4
               have S3 : Hid (x2.heap.size ≤ g4) := Lib.hid (Nat.le_trans K3.out.size hg4)
               have S2' : Hid (Below x2.heap.size x2 x4) := Lib.hid (below_more K3.out b4)
               have K4 : Kept (Below x2.heap.size x2 x4) := ⟨S2'.out⟩
               clear hg4 hN4 b4))
         go_wp2_with fail
         refine (awake_any _).mono ?_; rintro e x6 ⟨rfl, b6⟩
         have D6 := Lib.hid (below_more HV.out.2 (below_more B5.out b6))
         go_wp2_with fail
         go_ret
         exact ⟨rfl, D6.out⟩
       · have CF := Lib.hid (hformat_state (a := a) HI1.out.num PF.out.hb.lg.nm SN.out HI1.out.live (fun h => hT0 (by have := HT.out; unfold tm at this; rw [h] at this; exact this.symm)))
         rw [HA.out.1, HA.out.2.1, HA.out.2.2.1, HA.out.2.2.2] at CF
         have y1 : (T : Int) > 0 := by omega
         have y2 : (0 : Int) < (T : Int) := by omega
         have lP := (HV.out.1.below BF.out).load
         clear hT0 M2 hwf wf
         go_wp2_with fail
         refine (CF.out).mono ?_; rintro e wf ⟨rfl, bf⟩
         have BF := Lib.hid (below_more BF.out bf)
         have PF := Lib.hid (PF.out.below bf)
         clear bf CF lP
         obtain ⟨V1, hV1⟩ : ∃ V1, wf.alloc (.cells #[.int .i64 0, .int .i64 0, .int .i64 0, .int .i64 0] 23) = V1 := ⟨_, rfl⟩
         have P0 : Pq V1 wf.heap.size 0 0 0 0 := by rw [← hV1]; exact heap_alloc_new wf _
         have hst2 := P0.pstore (l' := (N : Int)) (s' := (P : Int)) (p' := (per : Int)) (b' := (b : Int))
         obtain ⟨V2, hV2⟩ : ∃ V2, V1.setRow wf.heap.size #[Value.int IntKind.i64 (N : Int), Value.int IntKind.i64 (P : Int), Value.int IntKind.i64 (per : Int), Value.int IntKind.i64 (b : Int)] = V2 := ⟨_, rfl⟩
         have P2 : Pq V2 wf.heap.size (N : Int) (P : Int) (per : Int) (b : Int) := by rw [← hV2]; exact P0.pput
         have BV2 : Below wf.heap.size wf V2 := by rw [← hV2, ← hV1]; exact below_row (bal (Below.refl _ _)) (Nat.le_refl _)
         rw [hV2] at hst2
         have z1 : IntKind.i64.wrap ((N : Int) + 1) = (N : Int) + 1 := by rw [show (N : Int) + 1 = ((N + 1 : Nat) : Int) by omega]; exact i64_nat _ (by have := HN.out; omega)
         obtain ⟨V3, hV3⟩ : ∃ V3, V2.setCell ⟨wf.heap.size, 0, none⟩ (.int .i64 ((N : Int) + 1)) = V3 := ⟨_, rfl⟩
         have P3 : Pq V3 wf.heap.size ((N : Int) + 1) (P : Int) (per : Int) (b : Int) := by rw [← hV3]; exact Whole.set_ P2 0 _
         have BV3 : Below wf.heap.size wf V3 := by rw [← hV3]; exact BV2.setCell (p := ⟨wf.heap.size, 0, none⟩) (Nat.le_refl _) _
         have z2 : V2.cell? ⟨wf.heap.size, 0, none⟩ = some (.int .i64 (N : Int)) := Whole.at_ P2 0
         have z3 := Whole.free P2 0
         have lP := (HV.out.1.below BF.out).load
         have l3 := P3.load
         have C1 := Lib.hid (hopen_other (PF.out.hb.lg.nm.below BV3) SN.out)
         rw [HA.out.1, HA.out.2.1, HA.out.2.2.1, HA.out.2.2.2] at C1
         have BG := Lib.hid (below_more BF.out BV3)
         clear P0 P2 P3 BV2 BV3
         go_wp2_with fail
         refine (C1.out).mono ?_; rintro e x1 ⟨rfl, bx1⟩
         have B1 := Lib.hid (below_more BG.out bx1)
         have lP1 := (HV.out.1.below B1.out).load
         clear bx1 C1 lP l3 hst2 z2 z3
         go_wp2_with fail
         refine (hopen_nil _ _ _ _).mono ?_; rintro e x2 ⟨rfl, bx2⟩
         have B2 := Lib.hid (below_more B1.out bx2)
         have lP2 : ∀ w', Kept (Below x2.heap.size x2 w') → (planLoad (.pointer (some ⟨w.heap.size, 0, none⟩))).run Tryz.prog w' = .ok (Value.agg #[Value.int IntKind.i64 (N : Int), Value.int IntKind.i64 (P : Int), Value.int IntKind.i64 (per : Int), Value.int IntKind.i64 (b : Int)]) w' := fun w' hb => (HV.out.1.below (below_more B2.out hb.out)).load
         have MN : Hid (MayN N P per b) := Lib.hid (by have := HN.out; unfold MayN; omega)
         have C2 := Lib.hid (fun w' => device_yes MN.out (v := 16 + N + 1 + P) (by omega) w')
         have C3 := Lib.hid (fun w' => new_yes (16 + N + 1 + P) (.slice none 0 0) [] w' (by have := HN.out; omega) (by have := HN.out; omega) (ri_nil w'))
         have C4 := Lib.hid (fun w' g' (q : Nm w' g' (newNv (16 + N + 1 + P) [])) => hopen_blank (a := ⟨0, g', 0, 0, 0, 0, 0, N, P, per, b⟩) ⟨MN.out.1, MN.out.2.1, MN.out.2.2.1, MN.out.2.2.2⟩ q)
         clear bx2 lP1 B1
         go_wp2
         go_region_held3 (fun w' => Kept (Below x2.heap.size x2 w'))
          (first | assumption | exact ⟨(Below.refl _ _).drew⟩)
          (first
            | (go_at_call 33; refine (C4.out _ _ N3.out).mono ?_; rintro e x5 ⟨rfl, c5⟩
               have B5 := Lib.hid (below_more B2.out (c5.below (S2'.out) S2'.out.size (fun k hk => by rw [List.mem_singleton.1 hk]; exact S3.out)))
               have K5 : Kept (Below x2.heap.size x2 x5) := ⟨c5.below S2'.out S2'.out.size (fun k hk => by rw [List.mem_singleton.1 hk]; exact S3.out)⟩
               clear c5)
            | (go_at_call 38; refine (C2.out _).mono ?_; rintro e x3 ⟨rfl, b3⟩
               have K3 : Kept (Below x2.heap.size x2 x3) := ⟨below_more (Below.refl _ _).drew b3⟩
               clear b3)
            | (go_at_call 37; refine (C3.out _).mono ?_; rintro e x4 ⟨g4, rfl, hg4, hN4, b4⟩
               have N3 := Lib.hid hN4
               have S3 : Hid (x2.heap.size ≤ g4) := Lib.hid (Nat.le_trans K3.out.size hg4)
               have S2' : Hid (Below x2.heap.size x2 x4) := Lib.hid (below_more K3.out b4)
               have K4 : Kept (Below x2.heap.size x2 x4) := ⟨S2'.out⟩
               clear hg4 hN4 b4))
         go_wp2_with fail
         refine (awake_any _).mono ?_; rintro e x6 ⟨rfl, b6⟩
         have D6 := Lib.hid (below_more HV.out.2 (below_more B5.out b6))
         go_wp2_with fail
         go_ret
         exact ⟨rfl, D6.out⟩
set_option maxRecDepth 100000 in
theorem lifted (os : Os) (started : os.Started) (H : Type) (enc : TypeId × Value → H) :
 ReturnsInHanded {} Tryz.checked os 5 .any (Rows.heapOpensSpec.pre6 enc Tryz.prog Tryz.f5 Rows.heapOpensRow.domain false) (Rows.heapOpensSpec.post enc Tryz.prog Tryz.f5 false true false false) := by
 refine returnsInHanded_of_change (C := Tryz.checked) own started (by kernel_rfl) Tryz.func5
  (ChangeSpec.witness6 (enc := enc) (C := Tryz.checked) false ⟨#[], #[.agg #[.int .i64 0, .int .i64 0, .int .i64 0, .int .i64 0], .slice none 0 0], []⟩ 8 (by kernel_rfl) (by kernel_rfl) (by kernel_rfl) (by kernel_rfl)) ?_
 intro W base args ds gs before hval0 hW hcnd _
 have hval : ∀ (j : Nat) t v, Tryz.f5.params[j]? = some t → args[j]? = some v → Value.okWide Tryz.prog W .any base t v := hval0
 have hW' := hW
 have hlt := hW.lt
 obtain ⟨p, q, hA0, hV, hpq, hfz, hnd⟩ := hW
 have hA : DataW.TrodAll enc Tryz.prog W 0 (fun _ => true) true Tryz.f5.params.toList args.toList ds p := hA0
 rw [Tryz.params5] at hA hval
 obtain ⟨v0, vs0, d0, ds0, p0, q0, hargs, rfl, hp, h0, r0⟩ := trodAll_cons hA
 obtain ⟨v1, vs1, d1, ds1, p1, q1, rfl, rfl, rfl, h1, r1⟩ := trodAll_cons r0
 obtain ⟨rfl, rfl, rfl⟩ := trodAll_nil r1
 obtain rfl : args = #[v0, v1] := by cases args; simp_all
 obtain ⟨rfl, rfl⟩ := trodVars_none hV
 have hlt' : ∀ x ∈ before, x.block < W.heap.size := fun x hx => hlt x hx
 obtain ⟨c0, e0, g0, k0, rfl, w0⟩ := plan_in (hval 0 23 v0 rfl rfl) h0
 obtain ⟨l1, w1⟩ := hops_in (hval 1 25 v1 rfl rfl) h1
 refine (walk c0 e0 g0 k0 l1 v1 W w0 w1).mono fun e W' ⟨he, hb⟩ => ?_
 subst he
 exact ⟨_, rfl, law_post rfl (by kernel_rfl) hW' (by rw [Tryz.params5]; intro t ht; simp only [List.mem_cons, List.not_mem_nil, or_false] at ht; (repeat' (first | (rcases ht with rfl | ht) | subst ht)) <;> exact ⟨by kernel_rfl, of_decide_eq_true (by kernel_rfl)⟩) rfl hb⟩
theorem over : Rows.heapOpensRow.holds Tryz.pinned (OpenSpec.ofChange Rows.heapOpensSpec) :=
 OpenClaim.holds_of_wide 5 Tryz.f5 rfl rfl rfl rfl rfl rfl rfl ⟨rfl, rfl, rfl, rfl, rfl⟩ rfl rfl rfl rfl rfl (by kernel_rfl) Tryz.func5 (by kernel_rfl)
  (of_decide_eq_true (by kernel_rfl)) (by unfold Func.isWrapper; first | (rw [if_pos (by decide +kernel)]; kernel_rfl) | (rw [if_neg (by decide +kernel)]; exact ⟨rfl, rfl⟩))
  (fun os started H enc _ => lifted os started H enc)
theorem proved : Rows.HeapOpensSaid := over
end Go.Proofs.YtjkefcidbcifpaaGreat.heapOpens
