/-
  Of blocks that may be, over any words that are those blocks, the edits of a taking leave words that are the blocks behind the taking: all words of the taken one but its header are noughts, all words beside it are as they were; none is taken that is used or too small. No conditions.
-/
import Derived.Test.YtabdcdddkmklcaaCrq
import Derived.Test.YtabdcdddkmklcaaEds
import Derived.BigQuiet
namespace Go.Proofs.Ytabdcdddkmklcaa.carveEdited
set_option maxRecDepth 100000
open Go.Proofs.Ytabdcdddkmklcaa Go.ChangeShapes Go.WideShapes Go.ChangeAt Go.RowKit

set_option maxHeartbeats 1000000 in
theorem far (l : List Bk) (p : Option Addr) (c : Nat) (n i k sd : Int) (w : World) (hv : RA blkE w (.slice p l.length c) l) (h : 300 < l.length ∨ l.length = 0 ∨ mayL n l = false) :
    Calls Try.prog 4 #[.slice p l.length c, .int .i64 n, .int .i64 i, .int .i64 k, .int .u64 sd] w fun e w' => e = .returned (.bool true) ∧ Below w.heap.size w w' := by
  by_cases h1 : 300 < l.length
  · clear hv h
    generalize l.length = L at *
    have i1 : (L : Int) > 300 := by omega
    go_enter Try.func4, Try.ntmps4
    go_wp2_with fail
    refine (awake_any _).mono ?_; rintro e w' ⟨rfl, hb⟩
    go_wp2_with fail
    go_ret
    exact ⟨rfl, hb⟩
  by_cases h2 : l.length = 0
  · clear hv h
    rw [h2]
    go_enter Try.func4, Try.ntmps4
    go_wp2_with fail
    refine (awake_any _).mono ?_; rintro e w' ⟨rfl, hb⟩
    go_wp2_with fail
    go_ret
    exact ⟨rfl, hb⟩
  have h3 : mayL n l = false := (h.resolve_left h1).resolve_left h2
  have M := Lib.hid (rmay_is n l _ false w hv (by omega) h3)
  have i1 : ¬ (l.length : Int) > 300 := by omega
  have i2 : ((l.length : Int) == 0) = false := beq_eq_false_iff_ne.2 (by omega)
  clear hv h h1 h2 h3
  generalize l.length = L at *
  go_enter Try.func4, Try.ntmps4
  go_wp2_with fail
  refine (M.out).mono ?_; rintro e w1 ⟨rfl, b1⟩
  have D1 := Lib.hid b1
  clear b1
  go_wp2_with fail
  refine (awake_any _).mono ?_; rintro e w2 ⟨rfl, b2⟩
  have D2 := Lib.hid (below_more D1.out b2)
  clear b2
  go_wp2_with fail
  go_ret
  exact ⟨rfl, D2.out⟩

set_option maxHeartbeats 4000000 in
theorem near (l : List Bk) (p : Option Addr) (c : Nat) (n i k sd : Int) (w : World) (hv : RA blkE w (.slice p l.length c) l) (h1 : l.length ≤ 300) (h2 : 0 < l.length) (h3 : mayL n l = true) :
    Calls Try.prog 4 #[.slice p l.length c, .int .i64 n, .int .i64 i, .int .i64 k, .int .u64 sd] w fun e w' => e = .returned (.bool true) ∧ Below w.heap.size w w' := by
  obtain ⟨n, rfl⟩ : ∃ m : Nat, n = m := ⟨n.toNat, by obtain ⟨⟨h, _⟩, _⟩ := mayL_yes.1 h3; omega⟩
  obtain ⟨u1, I, t1, t2, t3, t4, hI⟩ := place_of i l.length h2 h1
  obtain ⟨u2, q, N, t5, t6, t7, t8, hN, hN2⟩ := need_of k
  have M := Lib.hid (rmay_is n l _ true w hv (by omega) h3)
  have HH := Lib.hid (fun (w' : World) (hb : Below w.heap.size w w') => headers_is n l _ w' (ra_below hv hb) h3)
  have hcan := can_at h3 hI (N := N) (by omega)
  obtain ⟨⟨s1, s2⟩, a1, a2⟩ := at_in h3 hI
  obtain ⟨hn8, hn5, _⟩ := (mayL_yes.1 h3).1
  have hbn := bAt_nat l I
  have HV := Lib.hid (fun (w' : World) (hb : Below w.heap.size w w') => blk_at (ra_below hv hb) h2)
  obtain ⟨r, hr⟩ : ∃ r, canC l I N = r := ⟨_, rfl⟩
  have CB := Lib.hid (fun (w' : World) (hb : Below w.heap.size w w') => cblocks_is l I N _ w' (ra_below hv hb) (by omega) r hr)
  have CE := Lib.hid (fun (w' : World) (hb : Below w.heap.size w w') => cedits_is l I N _ w' (ra_below hv hb) (by omega))
  obtain ⟨⟨a, s, u⟩, hb⟩ : ∃ x, l.getD I default = x := ⟨_, rfl⟩
  rw [hb] at hcan s1 s2 a1 a2 hbn
  simp only at hcan s1 s2 a1 a2
  obtain ⟨z, rfl⟩ : ∃ z : Nat, a = z := ⟨a.toNat, by omega⟩
  obtain ⟨m, rfl⟩ : ∃ z : Nat, s = z := ⟨s.toNat, by omega⟩
  obtain ⟨b, off, rfl, _, _⟩ := blk_at hv h2
  have HX : Hid (∀ w', Below w.heap.size w w' → w'.cell? ⟨b, off + I * 3, none⟩ = some (.int .i64 z) ∧ w'.cell? ⟨b, off + I * 3 + 1, none⟩ = some (.int .i64 m) ∧ w'.cell? ⟨b, off + I * 3 + 2, none⟩ = some (.bool u)) := Lib.hid fun w' hb' => by
    obtain ⟨_, _, e, _, hx⟩ := HV.out w' hb'
    cases e
    obtain ⟨_, x1, x2, x3, _⟩ := hx I hI
    rw [hb] at x1 x2 x3
    exact ⟨x1, x2, x3⟩
  have hED : r = true → ∃ t : Nat, 2 ≤ t ∧ (t ≤ m ∧ N ≤ m) ∧ u = false ∧ (crvF l I N).getD I default = ⟨z, t, true⟩ ∧ I < (crvF l I N).length ∧ (cedF l I N).length ≤ 4000 ∧ blkF (appF (fil n (wrF (List.replicate n 0) l) sd n) (cedF l I N)) = some (crvF l I N) ∧ Edited n z t m (fil n (wrF (List.replicate n 0) l) sd n) (appF (fil n (wrF (List.replicate n 0) l) sd n) (cedF l I N)) := fun e => by
    have hr := hr.trans e
    have hP := crv_at hr
    have hlen := crv_length hr
    obtain ⟨_, _, _, hu, ht⟩ := canC_yes.1 hr
    rw [bAt_nat] at hP
    rw [hbn] at hP ht hu
    simp only at hP ht hu
    obtain ⟨g1, g2, g3, g4⟩ := takN_some ht
    obtain ⟨t, hte⟩ : ∃ t : Nat, takN m N = t := ⟨(takN m N).toNat, by omega⟩
    obtain ⟨e1, e2⟩ := edited (sd := sd) h3 hr hbn hte
    have hel : (cedF l I N).length ≤ 4000 := by
      have := edF_length (edOk_prt hr) _ (Nat.le_refl _)
      rw [List.take_length] at this
      rw [cedF, if_pos hr]
      have hp : (prtB (bAt l I) N).length ≤ 2 := by
        unfold prtB
        split <;> simp
      omega
    rw [hte] at hP g2 g3
    exact ⟨t, by omega, ⟨by omega, by omega⟩, hu, hP, by rw [hlen]; exact Nat.lt_of_lt_of_le hI (Nat.le_add_right _ _), hel, e1, e2⟩
  have hNO : r = false → cedF l I N = [] ∧ (u = true ∨ u = false ∧ (m : Int) < N) := fun e => by
    have hr := hr.trans e
    refine ⟨cedF_no hr, ?_⟩
    rw [hr] at hcan
    cases u
    · refine .inr ⟨rfl, ?_⟩
      by_cases c : (N : Int) ≤ m
      · rw [decide_eq_true c] at hcan; cases hcan
      · omega
    · exact .inl rfl
  have i1 : ¬ (l.length : Int) > 300 := by omega
  have i2 : ((l.length : Int) == 0) = false := beq_eq_false_iff_ne.2 (by omega)
  have i3 : ¬ (l.length : Int) = 0 := by omega
  have i4 : ¬ (I : Int) < 0 := by omega
  have i5 : (I : Int) < (l.length : Int) := by omega
  have i6 : ¬ l.length = 0 := by omega
  have HL : Hid (8 ≤ n ∧ n ≤ 512 ∧ z ≤ 512 ∧ m ≤ 512 ∧ z + m ≤ n ∧ 2 ≤ N) := Lib.hid (by omega)
  have HED := Lib.hid hED
  have HNO := Lib.hid hNO
  have HW : Hid ((wrF (List.replicate n 0) l).length = n) := Lib.hid (by rw [wrF_length, List.length_replicate])
  clear hv h1 h2 h3 hI hN hN2 hcan s1 s2 a1 a2 hr hbn hn8 hn5 hb hED hNO HV
  generalize wrF (List.replicate n 0) l = W0 at *
  generalize crvF l I N = P at *
  generalize cedF l I N = E at *
  generalize l.length = L at *
  go_enter Try.func4, Try.ntmps4
  go_wp2_with fail
  refine (M.out).mono ?_; rintro e w1 ⟨rfl, b1⟩
  have D1 := Lib.hid b1
  clear b1
  go_wp2_with fail
  refine (HH.out w1 D1.out).mono ?_; rintro e w2 ⟨⟨cw, rfl, oh⟩, b2⟩
  have D2 := Lib.hid (below_more D1.out b2)
  have OH : Hid (OwnU w1.heap.size w2 (.slice (some ⟨w1.heap.size, 0, none⟩) n cw) (fil n W0 sd 0)) := Lib.hid (by
    have := fil_zero (W := W0) sd
    rw [HW.out] at this
    rw [this]; exact oh)
  obtain ⟨gw, hgw⟩ : ∃ g, w1.heap.size = g := ⟨_, rfl⟩
  have HG : Hid (w.heap.size ≤ gw) := Lib.hid (by rw [← hgw]; exact D1.out.size)
  rw [hgw] at OH ⊢
  clear oh b2 M HH hgw
  go_wp2
  go_loopw [12, 54] (fun x i wr => ∃ k : Nat, k ≤ n ∧ i = .int .i64 k ∧ Hid (OwnU gw wr (.slice (some ⟨gw, 0, none⟩) n cw) (fil n W0 sd k) ∧ Below w.heap.size w wr)) (fun _ i _ => n - (intOf i).toNat)
  case atStart => exact ⟨0, Nat.zero_le _, rfl, Lib.hid ⟨OH.out, D2.out⟩⟩
  case round =>
    obtain ⟨k, hk, rfl, H⟩ := hrel
    by_cases hlt : k < n
    · clear t1 t2 t3 t4 t5 t6 t7 t8 CB CE HED HNO HX
      obtain ⟨c3, f3⟩ := OwnU.cells H.out.1 (j := k) (by rw [fil_length]; exact hlt)
      rw [fil_next sd hlt] at c3
      have i0 : (0 : Int) ≤ (k : Int) := by omega
      have n1 : (k : Int) < (n : Int) := by omega
      have n2 : ¬ (k : Int) < 0 := by omega
      have n3 : IntKind.i64.wrap ((k : Int) + 1) = ((k + 1 : Nat) : Int) := by rw [show (k : Int) + 1 = ((k + 1 : Nat) : Int) by omega]; exact i64_nat _ (by have := HL.out; omega)
      have n4 : IntKind.u64.wrap (k : Int) = (k : Int) := by rw [IntKind.wrap_u64]; have := HL.out; omega
      have HK := Lib.hid hlt
      by_cases e0 : W0.getD k 0 = 0
      · have HN : Hid (OwnU gw (wr.setCell ⟨gw, k, none⟩ (.int .u64 (IntKind.u64.wrap (sd + k)))) (.slice (some ⟨gw, 0, none⟩) n cw) (fil n W0 sd (k + 1)) ∧ Below w.heap.size w (wr.setCell ⟨gw, k, none⟩ (.int .u64 (IntKind.u64.wrap (sd + k))))) := Lib.hid ⟨by rw [← fil_set sd e0]; exact OwnU.stored H.out.1 k _, H.out.2.setCell (p := ⟨gw, k, none⟩) HG.out _⟩
        rw [e0] at c3
        obtain ⟨x, hx⟩ : ∃ x, IntKind.u64.wrap (sd + k) = x := ⟨_, rfl⟩
        rw [hx] at HN
        clear hk hlt e0
        go_wp2
        go_roundw
        case rel => exact ⟨k + 1, by have := HK.out; omega, by go_num, HN⟩
        case measure => have := HK.out; simp [intOf]; omega
      · have HN : Hid (OwnU gw wr (.slice (some ⟨gw, 0, none⟩) n cw) (fil n W0 sd (k + 1)) ∧ Below w.heap.size w wr) := Lib.hid ⟨by rw [fil_same sd e0]; exact H.out.1, H.out.2⟩
        have e1 : (W0.getD k 0 == 0) = false := beq_eq_false_iff_ne.2 e0
        generalize W0.getD k 0 = y at *
        clear hk hlt e0 f3
        go_wp2
        go_roundw
        case rel => exact ⟨k + 1, by have := HK.out; omega, by go_num, HN⟩
        case measure => have := HK.out; simp [intOf]; omega
    · obtain rfl : k = n := by omega
      have OX := Lib.hid H.out.1
      have DR := Lib.hid H.out.2
      clear H hk hlt OH D2
      go_wp2_with fail
      refine (CB.out wr DR.out).mono ?_; rintro e w3 ⟨⟨ve, rfl, oe⟩, b3⟩
      have D3 := Lib.hid (below_more DR.out b3)
      have OX3 := Lib.hid (OX.out.below b3)
      have OE := Lib.hid oe
      clear b3 oe OX CB
      obtain ⟨pm, cm, rfl, _, _⟩ := OE.out.shape
      go_wp2_with fail
      refine (CE.out w3 D3.out).mono ?_; rintro e w4 ⟨⟨vd, rfl, od⟩, b4⟩
      have D4 := Lib.hid (below_more D3.out b4)
      have OX4 := Lib.hid (OX3.out.below b4)
      have OE4 := Lib.hid (OE.out.below b4)
      have OD := Lib.hid od
      clear b4 od CE OX3 OE
      obtain ⟨pd, cd, rfl, _, _⟩ := OD.out.shape
      obtain ⟨x1, x2, x3⟩ := HX.out w4 D4.out
      cases r with
      | false =>
        obtain ⟨hE, hus⟩ := HNO.out rfl
        subst hE
        clear HED HNO HX OX4 OE4
        generalize P.length = Y at *
        rcases hus with rfl | ⟨rfl, hs⟩
        · go_wp2_with fail
          refine (awake_any _).mono ?_; rintro e w5 ⟨rfl, b5⟩
          have D5 := Lib.hid (below_more D4.out b5)
          clear b5
          go_wp2_with fail
          go_ret
          exact ⟨rfl, D5.out⟩
        · go_wp2_with fail
          refine (awake_any _).mono ?_; rintro e w5 ⟨rfl, b5⟩
          have D5 := Lib.hid (below_more D4.out b5)
          clear b5
          go_wp2_with fail
          go_ret
          exact ⟨rfl, D5.out⟩
      | true =>
        obtain ⟨t, g1, g2, rfl, hP, hIP, hEl, hbl, hed⟩ := HED.out rfl
        have CA := Lib.hid (rapply_is (fil k W0 sd k) E _ _ w4 OX4.out.ru OD.out.ra (by rw [fil_length]; have := HL.out; omega) (by rw [fil_length]; have := HL.out; omega) hEl)
        have HXL : Hid ((fil k W0 sd k).length = k) := Lib.hid (fil_length ..)
        have HE := Lib.hid hed
        have HP := Lib.hid (And.intro hP hIP)
        have HT := Lib.hid (And.intro g1 g2)
        have HBL := Lib.hid hbl
        clear HED HNO hEl hbl hed hP hIP
        generalize fil k W0 sd k = X at *
        generalize appF X E = V at *
        generalize E.length = EL at *
        have hlv := HE.out.len
        have i9 : ¬ (m : Int) < (N : Int) := by omega
        go_wp2_with fail
        refine (CA.out).mono ?_; rintro e w5 ⟨⟨vv, rfl, ov⟩, b5⟩
        have D5 := Lib.hid (below_more D4.out b5)
        obtain ⟨gv, cv, rfl, _, _, _, _⟩ := ov.block (by have := HL.out; omega)
        have OV := Lib.hid ov
        have OX5 := Lib.hid (OX4.out.below b5)
        have OE5 := Lib.hid (OE4.out.below b5)
        have CK := Lib.hid (blocks_is V _ (some P) w5 ov.ru (by have := HL.out; omega) HE.out.ok HBL.out)
        clear ov b5 CA OX4 OE4 x1 x2 x3 i9
        rw [hlv] at OV CK ⊢
        go_wp2_with fail
        refine (CK.out).mono ?_; rintro e w6 ⟨⟨vk, rfl, ok6⟩, b6⟩
        have D6 := Lib.hid (below_more D5.out b6)
        have OV6 := Lib.hid (OV.out.below b6)
        have OX6 := Lib.hid (OX5.out.below b6)
        have OE6 := Lib.hid (OE5.out.below b6)
        have OK6 : Hid (OwnA blkE w5.heap.size w6 vk P) := Lib.hid ok6
        obtain ⟨g, d, eg, _, _, HK⟩ := OE6.out.as_slice (by have := HP.out; omega)
        cases eg
        obtain ⟨_, _, rfl, _, _⟩ := OK6.out.shape
        obtain ⟨_, hc⟩ := HK w6 (Below.refl _ _)
        obtain ⟨y1, y2, y3⟩ := hc I HP.out.2
        rw [HP.out.1] at y1 y2 y3
        have y1 : w6.cell? ⟨g, I * 3, none⟩ = some (.int .i64 z) := y1
        have y2 : w6.cell? ⟨g, I * 3 + 1, none⟩ = some (.int .i64 t) := y2
        have y3 : w6.cell? ⟨g, I * 3 + 2, none⟩ = some (.bool true) := y3
        obtain ⟨x1, x2, _⟩ := HX.out w6 D6.out
        have HS : Hid (∀ wr, (∃ n, wr = w6.drewN n) → (∀ m, (wr.drewN m).cell? ⟨g, I * 3, none⟩ = some (.int .i64 z)) ∧ (∀ m, (wr.drewN m).cell? ⟨g, I * 3 + 1, none⟩ = some (.int .i64 t)) ∧ (∀ d, (wr.drewN d).cell? ⟨b, off + I * 3 + 1, none⟩ = some (.int .i64 m)) ∧ ∀ j, j < k → (∀ m, (wr.drewN m).cell? ⟨gv, j, none⟩ = some (.int .u64 (V.getD j 0))) ∧ (∀ m, (wr.drewN m).cell? ⟨gw, j, none⟩ = some (.int .u64 (X.getD j 0)))) := Lib.hid fun wr hwr => by
          obtain ⟨q, rfl⟩ := hwr
          refine ⟨fun _ => y1, fun _ => y2, fun _ => x2, fun j hj => ⟨fun _ => ?_, fun _ => ?_⟩⟩
          · exact (OwnU.cells OV6.out (j := j) (by rw [HE.out.len]; exact hj)).1
          · exact (OwnU.cells OX6.out (j := j) (by rw [HXL.out]; exact hj)).1
        have SB := Lib.hid (fun (n : Nat) => blks_same (w := w6.drewN n) (ra_below OK6.out.ra (below_drewN (Below.refl _ _) n)) (ra_below OE6.out.ra (below_drewN (Below.refl _ _) n)))
        have hip := HP.out.2
        have p1 : ¬ (I : Int) ≥ (P.length : Int) := by omega
        have p2 : ¬ (P.length : Int) ≤ (I : Int) := by omega
        have p3 : (I : Int) < (P.length : Int) := by omega
        have p4 : ((z : Int) != (z : Int)) = false := by simp
        have p5 : decide (P.length ≤ I) = false := decide_eq_false (by omega)
        clear b6 ok6 hc HK CK OX5 OE5 hip hlv OV
        obtain ⟨ZT, hZT⟩ : ∃ x, z + t = x := ⟨_, rfl⟩
        have j1 : IntKind.i64.wrap ((z : Int) + (t : Int)) = (ZT : Int) := by rw [← hZT]; exact i64_nat (z + t) (by have := HL.out; omega)
        have HZT := Lib.hid (And.intro hZT HT.out)
        clear hZT g1 g2 t1 t2 t3 t4 t5 t6 t7 t8
        generalize P.length = Y at *
        go_wp2_with fail
        go_quiet (refine Calls.quiet_of (SB.out _))
        have HQ0 : Hid (∃ n, w6.drewN nq = w6.drewN n) := Lib.hid ⟨nq, rfl⟩
        clear y1 y2 y3 x1 x2 SB p4 p1 p2 p5
        go_wp2
        go_loopw [19, 20, 21, 154] (fun x y z i wr => ∃ j : Nat, j ≤ k ∧ i = .int .i64 j ∧ Hid (∃ n, wr = w6.drewN n)) (fun _ _ _ i _ => k - (intOf i).toNat)
        case atStart => exact ⟨0, Nat.zero_le _, rfl, HQ0⟩
        case round =>
          obtain ⟨K, hk, rfl, HD⟩ := hrel
          by_cases hlt : K < k
          · obtain ⟨d1, d2, d3, d4⟩ := HS.out wr HD.out
            obtain ⟨d5, d6⟩ := d4 K hlt
            have n0 : (0 : Int) ≤ (K : Int) := by omega
            have n1 : (K : Int) < (k : Int) := by omega
            have n2 : ¬ (K : Int) < 0 := by omega
            have n3 : IntKind.i64.wrap ((K : Int) + 1) = ((K + 1 : Nat) : Int) := i64_nat (K + 1) (by have := HL.out; omega)
            have HK := Lib.hid hlt
            obtain ⟨hzt, hz1, hz2, _⟩ := HZT.out
            clear d4 hk
            by_cases c1 : K < z
            · have q1 : decide (z < K) = false := decide_eq_false (by omega)
              have q3 : ((K : Int) == (z : Int)) = false := beq_eq_false_iff_ne.2 (by omega)
              have q3' : (K == z) = false := beq_eq_false_iff_ne.2 (by omega)
              have q4 : ((K : Int) == (ZT : Int)) = false := beq_eq_false_iff_ne.2 (by omega)
              have q4' : (K == ZT) = false := beq_eq_false_iff_ne.2 (by omega)
              have hv := HE.out.lo K c1
              have HV := Lib.hid (hv)
              obtain ⟨x, hx⟩ : ∃ x, X.getD K 0 = x := ⟨_, rfl⟩
              rw [hv, hx] at d5
              rw [hx] at d6
              have z1 : (x != x) = false := by simp
              have HX2 := Lib.hid hx
              clear hx hlt hzt hz1 hz2 hv
              clear c1
              go_wp2_with fail
              go_quiet (fail)
              have hq1 : ∃ n, wr.drewN nq = w6.drewN n := by obtain ⟨n, e⟩ := HD.out; subst e; exact ⟨_, World.drewN_drewN ..⟩
              generalize wr.drewN nq = V1 at *
              have HD1 := Lib.hid hq1
              obtain ⟨e1, e2, e3, e4⟩ := HS.out V1 hq1
              obtain ⟨e5, e6⟩ := e4 K HK.out
              clear d1 d2 d3 d5 d6 e4 hq1
              rw [HV.out, HX2.out] at e5; rw [HX2.out] at e6
              go_wp2_with fail
              go_quiet (fail)
              have hq2 : ∃ n, V1.drewN nq = w6.drewN n := by obtain ⟨n, e⟩ := HD1.out; subst e; exact ⟨_, World.drewN_drewN ..⟩
              generalize V1.drewN nq = V2 at *
              have HD2 := Lib.hid hq2
              obtain ⟨f1, f2, f3, f4⟩ := HS.out V2 hq2
              obtain ⟨f5, f6⟩ := f4 K HK.out
              clear e1 e2 e3 e5 e6 f4 hq2
              rw [HV.out, HX2.out] at f5; rw [HX2.out] at f6
              go_wp2_with fail
              go_quiet (fail)
              go_wp2
              go_roundw
              case rel => exact ⟨K + 1, by have := HK.out; omega, by go_num, Lib.hid (by obtain ⟨n, e⟩ := HD2.out; subst e; exact ⟨_, World.drewN_drewN ..⟩)⟩
              case measure => have := HK.out; simp [intOf]; omega
            by_cases c2 : K = z
            · have q1 : decide (z < K) = false := decide_eq_false (by omega)
              have q3 : ((K : Int) == (z : Int)) = true := beq_iff_eq.2 (by omega)
              have q3' : (K == z) = true := beq_iff_eq.2 (by omega)
              have HV := Lib.hid (trivial)
              obtain ⟨x, hx⟩ : ∃ x, X.getD K 0 = x := ⟨_, rfl⟩
              obtain ⟨y, hy⟩ : ∃ x, V.getD K 0 = x := ⟨_, rfl⟩
              rw [hy] at d5
              rw [hx] at d6
              have HY := Lib.hid hy
              have HX2 := Lib.hid hx
              clear hx hlt hzt hz1 hz2 hy
              clear c1 c2
              go_wp2_with fail
              go_quiet (fail)
              have hq1 : ∃ n, wr.drewN nq = w6.drewN n := by obtain ⟨n, e⟩ := HD.out; subst e; exact ⟨_, World.drewN_drewN ..⟩
              generalize wr.drewN nq = V1 at *
              have HD1 := Lib.hid hq1
              obtain ⟨e1, e2, e3, e4⟩ := HS.out V1 hq1
              obtain ⟨e5, e6⟩ := e4 K HK.out
              clear d1 d2 d3 d5 d6 e4 hq1
              rw [HY.out] at e5; rw [HX2.out] at e6
              go_wp2_with fail
              go_quiet (fail)
              have hq2 : ∃ n, V1.drewN nq = w6.drewN n := by obtain ⟨n, e⟩ := HD1.out; subst e; exact ⟨_, World.drewN_drewN ..⟩
              generalize V1.drewN nq = V2 at *
              have HD2 := Lib.hid hq2
              obtain ⟨f1, f2, f3, f4⟩ := HS.out V2 hq2
              obtain ⟨f5, f6⟩ := f4 K HK.out
              clear e1 e2 e3 e5 e6 f4 hq2
              rw [HY.out] at f5; rw [HX2.out] at f6
              go_wp2_with fail
              go_quiet (fail)
              go_wp2
              go_roundw
              case rel => exact ⟨K + 1, by have := HK.out; omega, by go_num, Lib.hid (by obtain ⟨n, e⟩ := HD2.out; subst e; exact ⟨_, World.drewN_drewN ..⟩)⟩
              case measure => have := HK.out; simp [intOf]; omega
            by_cases c3 : K < ZT
            · have q1 : decide (z < K) = true := decide_eq_true (by omega)
              have q3 : ((K : Int) == (z : Int)) = false := beq_eq_false_iff_ne.2 (by omega)
              have q3' : (K == z) = false := beq_eq_false_iff_ne.2 (by omega)
              have q4 : ((K : Int) == (ZT : Int)) = false := beq_eq_false_iff_ne.2 (by omega)
              have q4' : (K == ZT) = false := beq_eq_false_iff_ne.2 (by omega)
              have q5 : decide (K < ZT) = true := decide_eq_true (by omega)
              have hv := HE.out.nul K (by omega) (by omega)
              have HV := Lib.hid (hv)
              obtain ⟨x, hx⟩ : ∃ x, X.getD K 0 = x := ⟨_, rfl⟩
              rw [hv] at d5
              rw [hx] at d6
              have z1 : ((0 : Int) != 0) = false := by simp
              have HX2 := Lib.hid hx
              clear hx hlt hzt hz1 hz2 hv
              clear c1 c2 c3
              go_wp2_with fail
              go_quiet (fail)
              have hq1 : ∃ n, wr.drewN nq = w6.drewN n := by obtain ⟨n, e⟩ := HD.out; subst e; exact ⟨_, World.drewN_drewN ..⟩
              generalize wr.drewN nq = V1 at *
              have HD1 := Lib.hid hq1
              obtain ⟨e1, e2, e3, e4⟩ := HS.out V1 hq1
              obtain ⟨e5, e6⟩ := e4 K HK.out
              clear d1 d2 d3 d5 d6 e4 hq1
              rw [HV.out] at e5; rw [HX2.out] at e6
              go_wp2_with fail
              go_quiet (fail)
              have hq2 : ∃ n, V1.drewN nq = w6.drewN n := by obtain ⟨n, e⟩ := HD1.out; subst e; exact ⟨_, World.drewN_drewN ..⟩
              generalize V1.drewN nq = V2 at *
              have HD2 := Lib.hid hq2
              obtain ⟨f1, f2, f3, f4⟩ := HS.out V2 hq2
              obtain ⟨f5, f6⟩ := f4 K HK.out
              clear e1 e2 e3 e5 e6 f4 hq2
              rw [HV.out] at f5; rw [HX2.out] at f6
              go_wp2_with fail
              go_quiet (fail)
              go_wp2
              go_roundw
              case rel => exact ⟨K + 1, by have := HK.out; omega, by go_num, Lib.hid (by obtain ⟨n, e⟩ := HD2.out; subst e; exact ⟨_, World.drewN_drewN ..⟩)⟩
              case measure => have := HK.out; simp [intOf]; omega
            by_cases c4 : K = ZT ∧ t < m
            · have q1 : decide (z < K) = true := decide_eq_true (by omega)
              have q3 : ((K : Int) == (z : Int)) = false := beq_eq_false_iff_ne.2 (by omega)
              have q3' : (K == z) = false := beq_eq_false_iff_ne.2 (by omega)
              have q4 : ((K : Int) == (ZT : Int)) = true := beq_iff_eq.2 (by omega)
              have q4' : (K == ZT) = true := beq_iff_eq.2 (by omega)
              have q5 : decide (K < ZT) = false := decide_eq_false (by omega)
              have q6 : decide (t < m) = true := decide_eq_true (by omega)
              have HV := Lib.hid (trivial)
              obtain ⟨x, hx⟩ : ∃ x, X.getD K 0 = x := ⟨_, rfl⟩
              obtain ⟨y, hy⟩ : ∃ x, V.getD K 0 = x := ⟨_, rfl⟩
              rw [hy] at d5
              rw [hx] at d6
              have HY := Lib.hid hy
              have HX2 := Lib.hid hx
              clear hx hlt hzt hz1 hz2 hy
              clear c1 c2 c3 c4
              go_wp2_with fail
              go_quiet (fail)
              have hq1 : ∃ n, wr.drewN nq = w6.drewN n := by obtain ⟨n, e⟩ := HD.out; subst e; exact ⟨_, World.drewN_drewN ..⟩
              generalize wr.drewN nq = V1 at *
              have HD1 := Lib.hid hq1
              obtain ⟨e1, e2, e3, e4⟩ := HS.out V1 hq1
              obtain ⟨e5, e6⟩ := e4 K HK.out
              clear d1 d2 d3 d5 d6 e4 hq1
              rw [HY.out] at e5; rw [HX2.out] at e6
              go_wp2_with fail
              go_quiet (fail)
              have hq2 : ∃ n, V1.drewN nq = w6.drewN n := by obtain ⟨n, e⟩ := HD1.out; subst e; exact ⟨_, World.drewN_drewN ..⟩
              generalize V1.drewN nq = V2 at *
              have HD2 := Lib.hid hq2
              obtain ⟨f1, f2, f3, f4⟩ := HS.out V2 hq2
              obtain ⟨f5, f6⟩ := f4 K HK.out
              clear e1 e2 e3 e5 e6 f4 hq2
              rw [HY.out] at f5; rw [HX2.out] at f6
              go_wp2_with fail
              go_quiet (fail)
              go_wp2
              go_roundw
              case rel => exact ⟨K + 1, by have := HK.out; omega, by go_num, Lib.hid (by obtain ⟨n, e⟩ := HD2.out; subst e; exact ⟨_, World.drewN_drewN ..⟩)⟩
              case measure => have := HK.out; simp [intOf]; omega
            by_cases c5 : K = ZT
            · have q1 : decide (z < K) = true := decide_eq_true (by omega)
              have q3 : ((K : Int) == (z : Int)) = false := beq_eq_false_iff_ne.2 (by omega)
              have q3' : (K == z) = false := beq_eq_false_iff_ne.2 (by omega)
              have q4 : ((K : Int) == (ZT : Int)) = true := beq_iff_eq.2 (by omega)
              have q4' : (K == ZT) = true := beq_iff_eq.2 (by omega)
              have q5 : decide (K < ZT) = false := decide_eq_false (by omega)
              have q6 : decide (t < m) = false := decide_eq_false (by omega)
              have hv := HE.out.hi K (by rw [if_neg (by omega)]; omega)
              have HV := Lib.hid (hv)
              obtain ⟨x, hx⟩ : ∃ x, X.getD K 0 = x := ⟨_, rfl⟩
              rw [hv, hx] at d5
              rw [hx] at d6
              have z1 : (x != x) = false := by simp
              have HX2 := Lib.hid hx
              clear hx hlt hzt hz1 hz2 hv
              clear c1 c2 c3 c4 c5
              go_wp2_with fail
              go_quiet (fail)
              have hq1 : ∃ n, wr.drewN nq = w6.drewN n := by obtain ⟨n, e⟩ := HD.out; subst e; exact ⟨_, World.drewN_drewN ..⟩
              generalize wr.drewN nq = V1 at *
              have HD1 := Lib.hid hq1
              obtain ⟨e1, e2, e3, e4⟩ := HS.out V1 hq1
              obtain ⟨e5, e6⟩ := e4 K HK.out
              clear d1 d2 d3 d5 d6 e4 hq1
              rw [HV.out, HX2.out] at e5; rw [HX2.out] at e6
              go_wp2_with fail
              go_quiet (fail)
              have hq2 : ∃ n, V1.drewN nq = w6.drewN n := by obtain ⟨n, e⟩ := HD1.out; subst e; exact ⟨_, World.drewN_drewN ..⟩
              generalize V1.drewN nq = V2 at *
              have HD2 := Lib.hid hq2
              obtain ⟨f1, f2, f3, f4⟩ := HS.out V2 hq2
              obtain ⟨f5, f6⟩ := f4 K HK.out
              clear e1 e2 e3 e5 e6 f4 hq2
              rw [HV.out, HX2.out] at f5; rw [HX2.out] at f6
              go_wp2_with fail
              go_quiet (fail)
              go_wp2
              go_roundw
              case rel => exact ⟨K + 1, by have := HK.out; omega, by go_num, Lib.hid (by obtain ⟨n, e⟩ := HD2.out; subst e; exact ⟨_, World.drewN_drewN ..⟩)⟩
              case measure => have := HK.out; simp [intOf]; omega
            have q1 : decide (z < K) = true := decide_eq_true (by omega)
            have q3 : ((K : Int) == (z : Int)) = false := beq_eq_false_iff_ne.2 (by omega)
            have q3' : (K == z) = false := beq_eq_false_iff_ne.2 (by omega)
            have q4 : ((K : Int) == (ZT : Int)) = false := beq_eq_false_iff_ne.2 (by omega)
            have q4' : (K == ZT) = false := beq_eq_false_iff_ne.2 (by omega)
            have q5 : decide (K < ZT) = false := decide_eq_false (by omega)
            have hv := HE.out.hi K (by split <;> omega)
            have HV := Lib.hid (hv)
            obtain ⟨x, hx⟩ : ∃ x, X.getD K 0 = x := ⟨_, rfl⟩
            rw [hv, hx] at d5
            rw [hx] at d6
            have z1 : (x != x) = false := by simp
            have HX2 := Lib.hid hx
            clear hx hlt hzt hz1 hz2 hv
            clear c1 c2 c3 c4 c5
            go_wp2_with fail
            go_quiet (fail)
            have hq1 : ∃ n, wr.drewN nq = w6.drewN n := by obtain ⟨n, e⟩ := HD.out; subst e; exact ⟨_, World.drewN_drewN ..⟩
            generalize wr.drewN nq = V1 at *
            have HD1 := Lib.hid hq1
            obtain ⟨e1, e2, e3, e4⟩ := HS.out V1 hq1
            obtain ⟨e5, e6⟩ := e4 K HK.out
            clear d1 d2 d3 d5 d6 e4 hq1
            rw [HV.out, HX2.out] at e5; rw [HX2.out] at e6
            go_wp2_with fail
            go_quiet (fail)
            have hq2 : ∃ n, V1.drewN nq = w6.drewN n := by obtain ⟨n, e⟩ := HD1.out; subst e; exact ⟨_, World.drewN_drewN ..⟩
            generalize V1.drewN nq = V2 at *
            have HD2 := Lib.hid hq2
            obtain ⟨f1, f2, f3, f4⟩ := HS.out V2 hq2
            obtain ⟨f5, f6⟩ := f4 K HK.out
            clear e1 e2 e3 e5 e6 f4 hq2
            rw [HV.out, HX2.out] at f5; rw [HX2.out] at f6
            go_wp2_with fail
            go_quiet (fail)
            go_wp2
            go_roundw
            case rel => exact ⟨K + 1, by have := HK.out; omega, by go_num, Lib.hid (by obtain ⟨n, e⟩ := HD2.out; subst e; exact ⟨_, World.drewN_drewN ..⟩)⟩
            case measure => have := HK.out; simp [intOf]; omega
          · obtain rfl : K = k := by omega
            have DE : Hid (Below w.heap.size w wr) := Lib.hid (by obtain ⟨n, e⟩ := HD.out; subst e; exact below_drewN D6.out n)
            clear HS hk hlt HD
            go_wp2_with fail
            refine (awake_any _).mono ?_; rintro e w7 ⟨rfl, b7⟩
            have D7 := Lib.hid (below_more DE.out b7)
            clear b7
            go_wp2_with fail
            go_ret
            exact ⟨rfl, D7.out⟩

theorem walk (l0 : List Bk) (v0 : Value) (a1 a2 a3 a4 : Int) (w : World) (h0 : RA blkE w v0 l0) (_ : (Lit.int .i64 a1).wf = true) (_ : (Lit.int .i64 a2).wf = true) (_ : (Lit.int .i64 a3).wf = true) (_ : (Lit.int .u64 a4).wf = true) :
    Calls Try.prog 4 #[v0, .int .i64 a1, .int .i64 a2, .int .i64 a3, .int .u64 a4] w fun e w' => e = .returned (.bool true) ∧ Below w.heap.size w w' := by
  obtain ⟨p, c, rfl, _⟩ := ra_shape h0
  by_cases h : 300 < l0.length ∨ l0.length = 0 ∨ mayL a1 l0 = false
  · exact far l0 p c a1 a2 a3 a4 w h0 h
  · have h' := not_or.1 h
    have h'' := not_or.1 h'.2
    exact near l0 p c a1 a2 a3 a4 w h0 (by omega) (by omega) (by simpa using h''.2)

set_option maxRecDepth 100000 in
theorem lifted (os : Os) (started : os.Started) (H : Type) (enc : TypeId × Value → H) :
    ReturnsInHanded {} Try.checked os 4 .any (Rows.carveEditedSpec.pre6 enc Try.prog Try.f4 Rows.carveEditedRow.domain false) (Rows.carveEditedSpec.post enc Try.prog Try.f4 false true false false) := by
  refine returnsInHanded_of_change (C := Try.checked) own started (by kernel_rfl) Try.func4
    (ChangeSpec.witness6 (enc := enc) (C := Try.checked) false ⟨#[], #[.slice none 0 0, .int .i64 0, .int .i64 0, .int .i64 0, .int .u64 0], []⟩ 8 (by kernel_rfl) (by kernel_rfl) (by kernel_rfl) (by kernel_rfl)) ?_
  intro W base args ds gs before hval0 hW hcnd _
  have hval : ∀ (j : Nat) t v, Try.f4.params[j]? = some t → args[j]? = some v → Value.okWide Try.prog W .any base t v := hval0
  have hW' := hW
  have hlt := hW.lt
  obtain ⟨p, q, hA0, hV, hpq, hfz, hnd⟩ := hW
  have hA : DataW.TrodAll enc Try.prog W 0 (fun _ => true) true Try.f4.params.toList args.toList ds p := hA0
  rw [Try.params4] at hA hval
  obtain ⟨v0, vs0, d0, ds0, p0, q0, hargs, rfl, hp, h0, r0⟩ := trodAll_cons hA
  obtain ⟨v1, vs1, d1, ds1, p1, q1, rfl, rfl, rfl, h1, r1⟩ := trodAll_cons r0
  obtain ⟨v2, vs2, d2, ds2, p2, q2, rfl, rfl, rfl, h2, r2⟩ := trodAll_cons r1
  obtain ⟨v3, vs3, d3, ds3, p3, q3, rfl, rfl, rfl, h3, r3⟩ := trodAll_cons r2
  obtain ⟨v4, vs4, d4, ds4, p4, q4, rfl, rfl, rfl, h4, r4⟩ := trodAll_cons r3
  obtain ⟨rfl, rfl, rfl⟩ := trodAll_nil r4
  obtain rfl : args = #[v0, v1, v2, v3, v4] := by cases args; simp_all
  obtain ⟨rfl, rfl⟩ := trodVars_none hV
  have hlt' : ∀ x ∈ before, x.block < W.heap.size := fun x hx => hlt x hx
  obtain ⟨l0, w0⟩ := blocks_in (hval 0 22 v0 rfl rfl) h0
  obtain ⟨a1, rfl, rfl, rfl, w1⟩ := open_int Try.underlying3 (hval 1 3 v1 rfl rfl) h1
  obtain ⟨a2, rfl, rfl, rfl, w2⟩ := open_int Try.underlying3 (hval 2 3 v2 rfl rfl) h2
  obtain ⟨a3, rfl, rfl, rfl, w3⟩ := open_int Try.underlying3 (hval 3 3 v3 rfl rfl) h3
  obtain ⟨a4, rfl, rfl, rfl, w4⟩ := open_int Try.underlying34 (hval 4 34 v4 rfl rfl) h4
  refine (walk l0 v0 a1 a2 a3 a4 W w0 w1 w2 w3 w4).mono fun e W' ⟨he, hb⟩ => ?_
  subst he
  exact ⟨_, rfl, law_post rfl (by kernel_rfl) hW' (by rw [Try.params4]; intro t ht; simp only [List.mem_cons, List.not_mem_nil, or_false] at ht; (repeat' (first | (rcases ht with rfl | ht) | subst ht)) <;> exact ⟨by kernel_rfl, of_decide_eq_true (by kernel_rfl)⟩) rfl hb⟩

theorem over : Rows.carveEditedRow.holds Try.pinned (OpenSpec.ofChange Rows.carveEditedSpec) :=
  OpenClaim.holds_of_wide 4 Try.f4 rfl rfl rfl rfl rfl rfl rfl ⟨rfl, rfl, rfl, rfl, rfl⟩ rfl rfl rfl rfl rfl (by kernel_rfl) Try.func4 (by kernel_rfl)
    (of_decide_eq_true (by kernel_rfl)) (by unfold Func.isWrapper; first | (rw [if_pos (by decide +kernel)]; kernel_rfl) | (rw [if_neg (by decide +kernel)]; exact ⟨rfl, rfl⟩))
    (fun os started H enc _ => lifted os started H enc)

theorem proved : Rows.CarveEditedSaid := over
end Go.Proofs.Ytabdcdddkmklcaa.carveEdited
