/-
  A block that is taken and given back leaves the blocks as they were; one that is given back leaves words that are those blocks, and as many words more are free as it has. No conditions.
-/
import Derived.Test.YtlpbdnfecnochaaMgw
import Derived.Test.YtlpbdnfecnochaaMgv
import Derived.Test.YtlpbdnfecnochaaEds
import Derived.Deep.RegionHeld3
import Derived.Deep.DeepCutAuto
namespace Go.Proofs.Ytlpbdnfecnochaa.mergeBack
set_option maxRecDepth 100000
open Go.Proofs.Ytlpbdnfecnochaa Go.ChangeShapes Go.WideShapes Go.ChangeAt Go.RowKit

set_option maxHeartbeats 1000000 in
theorem far (l : List Bk) (p : Option Addr) (c : Nat) (n i k : Int) (w : World) (hv : RA blkE w (.slice p l.length c) l) (h : 300 < l.length ∨ l.length = 0 ∨ mayL n l = false) :
    Calls Try.prog 4 #[.slice p l.length c, .int .i64 n, .int .i64 i, .int .i64 k] w fun e w' => e = .returned (.bool true) ∧ Below w.heap.size w w' := by
  by_cases h1 : 300 < l.length
  · clear hv h
    generalize l.length = L at *
    have i1 : (L : Int) > 300 := by omega
    go_enter Try.func4, Try.ntmps4
    go_wp2_with fail
    refine (awake_any _).mono ?_; rintro e w' ⟨rfl, hb⟩
    go_wp2_with fail
    go_ret
    exact ⟨rfl, hb⟩
  by_cases h2 : l.length = 0
  · clear hv h
    rw [h2]
    go_enter Try.func4, Try.ntmps4
    go_wp2_with fail
    refine (awake_any _).mono ?_; rintro e w' ⟨rfl, hb⟩
    go_wp2_with fail
    go_ret
    exact ⟨rfl, hb⟩
  have h3 : mayL n l = false := (h.resolve_left h1).resolve_left h2
  have M := Lib.hid (rmay_is n l _ false w hv (by omega) h3)
  have i1 : ¬ (l.length : Int) > 300 := by omega
  have i2 : ((l.length : Int) == 0) = false := beq_eq_false_iff_ne.2 (by omega)
  clear hv h h1 h2 h3
  generalize l.length = L at *
  go_enter Try.func4, Try.ntmps4
  go_wp2_with fail
  refine (M.out).mono ?_; rintro e w1 ⟨rfl, b1⟩
  have D1 := Lib.hid b1
  clear b1
  go_wp2_with fail
  refine (awake_any _).mono ?_; rintro e w2 ⟨rfl, b2⟩
  have D2 := Lib.hid (below_more D1.out b2)
  clear b2
  go_wp2_with fail
  go_ret
  exact ⟨rfl, D2.out⟩

set_option maxHeartbeats 4000000 in
theorem free_ (l : List Bk) (p : Option Addr) (c : Nat) (n i k : Int) (w : World) (hv : RA blkE w (.slice p l.length c) l) (h1 : l.length ≤ 300) (h2 : 0 < l.length) (h3 : mayL n l = true) (hu0 : ∀ I : Nat, I < l.length → IntKind.i64.wrap ((IntKind.u64.wrap i).tmod l.length) = I → (l.getD I default).u = false) :
    Calls Try.prog 4 #[.slice p l.length c, .int .i64 n, .int .i64 i, .int .i64 k] w fun e w' => e = .returned (.bool true) ∧ Below w.heap.size w w' := by
  obtain ⟨n, rfl⟩ : ∃ m : Nat, n = m := ⟨n.toNat, by obtain ⟨⟨h, _⟩, _⟩ := mayL_yes.1 h3; omega⟩
  obtain ⟨u1, I, t1, t2, t3, t4, hI⟩ := place_of i l.length h2 h1
  have hU := hu0 I hI (by rw [t1, t3, t4])
  clear hu0
  obtain ⟨u2, q, N, t5, t6, t7, t8, hN, hN2⟩ := need_of k
  have M := Lib.hid (rmay_is n l _ true w hv (by omega) h3)
  have hcan := can_at h3 hI (N := N) (by omega)
  have hcm := canM_at h3 hI
  obtain ⟨⟨s1, s2⟩, a1, a2⟩ := at_in h3 hI
  obtain ⟨hfl, hf0, hf5⟩ := frL_in h3
  have HV := Lib.hid (fun (w' : World) (hb : Below w.heap.size w w') => ra_below hv hb)
  obtain ⟨⟨a, s, u⟩, hb⟩ : ∃ x, l.getD I default = x := ⟨_, rfl⟩
  rw [hb] at hcan hcm s1 s2 a1 a2 hU
  simp only at hcan hcm s1 s2 a1 a2 hU
  subst hU
  obtain ⟨b, off, rfl, _, _⟩ := blk_at hv h2
  have HX : Hid (∀ w', Below w.heap.size w w' → w'.cell? ⟨b, off + I * 3 + 1, none⟩ = some (.int .i64 s) ∧ w'.cell? ⟨b, off + I * 3 + 2, none⟩ = some (.bool false)) := Lib.hid fun w' hb' => by
    obtain ⟨_, _, e, _, hx⟩ := blk_at (HV.out w' hb') h2
    cases e
    obtain ⟨_, x1, x2, x3, _⟩ := hx I hI
    rw [hb] at x1 x2 x3
    exact ⟨x2, x3⟩
  have i1 : ¬ (l.length : Int) > 300 := by omega
  have i2 : ((l.length : Int) == 0) = false := beq_eq_false_iff_ne.2 (by omega)
  have i3 : ¬ (l.length : Int) = 0 := by omega
  have i4 : ¬ (I : Int) < 0 := by omega
  have i5 : (I : Int) < (l.length : Int) := by omega
  have i6 : ¬ l.length = 0 := by omega
  rw [Bool.not_false, Bool.true_and] at hcan
  have CB := Lib.hid (fun (w' : World) (hb : Below w.heap.size w w') => cblocks_is l I N _ w' (ra_below hv hb) (by omega) _ hcan)
  by_cases c0 : (N : Int) ≤ s
  · rw [decide_eq_true c0] at CB hcan
    obtain ⟨m1, m2⟩ := mrg_crv h3 hcan
    have hlen := crv_length hcan
    have CM := Lib.hid (fun (v : Value) (w' : World) (h : RA blkE w' v (crvF l I N)) => mblocks_is (crvF l I N) I v w' h (by rw [hlen]; split <;> omega) true m1)
    rw [m2] at CM
    clear hv h1 h2 h3 hI hN hN2 hcan s1 s2 a1 a2 hb hcm hfl hf0 hf5 m1 m2 hlen
    generalize crvF l I N = P at *
    have SB := Lib.hid (fun (v : Value) (w1 w' : World) (hb : Below w.heap.size w w') (h : RA blkE w' v l) => blks_same h (HV.out w' hb))
    generalize l.length = L at *
    go_enter Try.func4, Try.ntmps4
    go_wp2_with fail
    refine (M.out).mono ?_; rintro e w1 ⟨rfl, b1⟩
    have D1 := Lib.hid b1
    obtain ⟨_, x2⟩ := HX.out w1 b1
    clear b1 M
    go_wp2_with fail
    refine (CB.out w1 D1.out).mono ?_; rintro e w2 ⟨⟨v2, rfl, o2⟩, b2⟩
    have D2 := Lib.hid (below_more D1.out b2)
    have O2 := Lib.hid o2.ra
    clear b2 o2 CB
    go_wp2_with fail
    refine (CM.out _ _ O2.out).mono ?_; rintro e w3 ⟨⟨v3, rfl, o3⟩, b3⟩
    have D3 := Lib.hid (below_more D2.out b3)
    have O3 := Lib.hid o3.ra
    clear b3 o3 CM
    go_wp2_with fail
    refine (SB.out _ w3 _ D3.out O3.out).mono ?_; rintro e w4 ⟨rfl, nn, rfl⟩
    have D4 := Lib.hid (below_drewN D3.out nn)
    go_wp2_with fail
    refine (awake_any _).mono ?_; rintro e w5 ⟨rfl, b5⟩
    have D5 := Lib.hid (below_more D4.out b5)
    clear b5
    go_wp2_with fail
    go_ret
    exact ⟨rfl, D5.out⟩
  · rw [decide_eq_false c0] at CB hcan
    have c1 : s < (N : Int) := by omega
    clear hv h1 h2 h3 hI hN hN2 hcan s1 s2 a1 a2 hb hcm hfl hf0 hf5 c0 HV
    generalize crvF l I N = P at *
    generalize l.length = L at *
    go_enter Try.func4, Try.ntmps4
    go_wp2_with fail
    refine (M.out).mono ?_; rintro e w1 ⟨rfl, b1⟩
    have D1 := Lib.hid b1
    obtain ⟨_, x2⟩ := HX.out w1 b1
    clear b1 M
    go_wp2_with fail
    refine (CB.out w1 D1.out).mono ?_; rintro e w2 ⟨⟨v2, rfl, o2⟩, b2⟩
    have D2 := Lib.hid (below_more D1.out b2)
    obtain ⟨x3, _⟩ := HX.out w2 D2.out
    clear b2 o2 CB x2
    go_wp2_with fail
    refine (awake_any _).mono ?_; rintro e w5 ⟨rfl, b5⟩
    have D5 := Lib.hid (below_more D2.out b5)
    clear b5
    go_wp2_with fail
    go_ret
    exact ⟨rfl, D5.out⟩

set_option maxHeartbeats 8000000 in
theorem used_ (l : List Bk) (p : Option Addr) (c : Nat) (n i k : Int) (w : World) (hv : RA blkE w (.slice p l.length c) l) (h1 : l.length ≤ 300) (h2 : 0 < l.length) (h3 : mayL n l = true) (hu0 : ∀ I : Nat, I < l.length → IntKind.i64.wrap ((IntKind.u64.wrap i).tmod l.length) = I → (l.getD I default).u = true) :
    Calls Try.prog 4 #[.slice p l.length c, .int .i64 n, .int .i64 i, .int .i64 k] w fun e w' => e = .returned (.bool true) ∧ Below w.heap.size w w' := by
  obtain ⟨n, rfl⟩ : ∃ m : Nat, n = m := ⟨n.toNat, by obtain ⟨⟨h, _⟩, _⟩ := mayL_yes.1 h3; omega⟩
  obtain ⟨u1, I, t1, t2, t3, t4, hI⟩ := place_of i l.length h2 h1
  have hU := hu0 I hI (by rw [t1, t3, t4])
  clear hu0
  obtain ⟨u2, q, N, t5, t6, t7, t8, hN, hN2⟩ := need_of k
  have M := Lib.hid (rmay_is n l _ true w hv (by omega) h3)
  have hcan := can_at h3 hI (N := N) (by omega)
  have hcm := canM_at h3 hI
  obtain ⟨⟨s1, s2⟩, a1, a2⟩ := at_in h3 hI
  obtain ⟨hfl, hf0, hf5⟩ := frL_in h3
  have HV := Lib.hid (fun (w' : World) (hb : Below w.heap.size w w') => ra_below hv hb)
  obtain ⟨⟨a, s, u⟩, hb⟩ : ∃ x, l.getD I default = x := ⟨_, rfl⟩
  rw [hb] at hcan hcm s1 s2 a1 a2 hU
  simp only at hcan hcm s1 s2 a1 a2 hU
  subst hU
  obtain ⟨b, off, rfl, _, _⟩ := blk_at hv h2
  have HX : Hid (∀ w', Below w.heap.size w w' → w'.cell? ⟨b, off + I * 3 + 1, none⟩ = some (.int .i64 s) ∧ w'.cell? ⟨b, off + I * 3 + 2, none⟩ = some (.bool true)) := Lib.hid fun w' hb' => by
    obtain ⟨_, _, e, _, hx⟩ := blk_at (HV.out w' hb') h2
    cases e
    obtain ⟨_, x1, x2, x3, _⟩ := hx I hI
    rw [hb] at x1 x2 x3
    exact ⟨x2, x3⟩
  have i1 : ¬ (l.length : Int) > 300 := by omega
  have i2 : ((l.length : Int) == 0) = false := beq_eq_false_iff_ne.2 (by omega)
  have i3 : ¬ (l.length : Int) = 0 := by omega
  have i4 : ¬ (I : Int) < 0 := by omega
  have i5 : (I : Int) < (l.length : Int) := by omega
  have i6 : ¬ l.length = 0 := by omega
  obtain ⟨g1, g2, g3⟩ := merged_words h3 hcm
  obtain ⟨_, hmf⟩ := mrg_counts hcm
  rw [hb] at hmf
  simp only at hmf
  have hmm := mayL_mrg h3 hcm
  obtain ⟨hpl, hp0, hp5⟩ := frL_in hmm
  obtain ⟨_, hml, _⟩ := mrg_length hcm
  obtain ⟨hn8, hn5, _⟩ := (mayL_yes.1 h3).1
  obtain ⟨_, hob, hoa, hoa2⟩ := one_wf hcm
  have hew : (medF l I).Wf := by
    rw [medF_yes hcm]
    have := hdB_in (oneB l I).s false
    exact Ed.wf_of (by simp only; omega) (by simp only; omega) this.1 this.2
  have CB := Lib.hid (fun (w' : World) (hb : Below w.heap.size w w') => mblocks_is l I _ w' (ra_below hv hb) (by omega) true hcm)
  have CE := Lib.hid (fun (w' : World) (hb : Below w.heap.size w w') => medit_is l I _ w' (ra_below hv hb) (by omega) true hcm)
  have HH := Lib.hid (fun (w' : World) (hb : Below w.heap.size w w') => headers_is n l _ w' (ra_below hv hb) h3)
  have CA := Lib.hid (fun (v u : Value) (w' : World) (h1 : RU w' v (wrF (List.replicate n 0) l)) (h2 : RA edE w' u [medF l I]) => rapply_is (wrF (List.replicate n 0) l) [medF l I] v u w' h1 h2 (by rw [wrF_length, List.length_replicate]; omega) (by rw [wrF_length, List.length_replicate]; omega) (by simp))
  have CK := Lib.hid (fun (v : Value) (w' : World) (h : RU w' v (appF (wrF (List.replicate n 0) l) [medF l I])) => blocks_is (appF (wrF (List.replicate n 0) l) [medF l I]) v (some (mrgF l I)) w' h (by rw [g3]; omega) g2 g1)
  have MP := Lib.hid (fun (v : Value) (w' : World) (h : RA blkE w' v (mrgF l I)) => may_is n (mrgF l I) v true w' h (by omega) hmm)
  have FP := Lib.hid (fun (v : Value) (w' : World) (h : RA blkE w' v (mrgF l I)) => free_is (mrgF l I) v (frS (mrgF l I)) w' h hpl)
  have FL := Lib.hid (fun (w' : World) (hb : Below w.heap.size w w') => free_is l _ (frS l) w' (ra_below hv hb) hfl)
  have j1 : IntKind.i64.wrap (frS l + s) = frS (mrgF l I) := by rw [hmf]; exact IntWalk.i64_in _ (by omega)
  have ED : Hid (∀ w1 : World, RA edE (w1.alloc (.cells (ec (medF l I)) 30)) (.slice (some ⟨w1.heap.size, 0, none⟩) 1 1) [medF l I]) := Lib.hid fun w1 => (ed_one w1 hew).ra
  clear hv h1 h2 h3 hI hN hN2 hcan s1 s2 a1 a2 hb hcm hfl hf0 hf5 g1 g2 g3 hmf hmm hpl hp0 hp5 hml hn8 hn5 hob hoa hoa2 hew
  generalize mrgF l I = P at *
  generalize medF l I = e0 at *
  generalize appF (wrF (List.replicate n 0) l) [e0] = X at *
  generalize wrF (List.replicate n 0) l = W0 at *
  generalize frS P = G at *
  generalize frS l = F at *
  generalize l.length = L at *
  have f1 : (G == G) = true := by simp
  have SZ : Hid (∀ x : World, Below w.heap.size w x → w.heap.size ≤ x.heap.size) := Lib.hid fun _ h => h.size
  go_enter Try.func4, Try.ntmps4
  go_wp2_with fail
  refine (M.out).mono ?_; rintro e w1 ⟨rfl, b1⟩
  have D1 := Lib.hid b1
  obtain ⟨_, x2⟩ := HX.out w1 b1
  clear b1 M
  go_wp2_with fail
  refine (CB.out w1 D1.out).mono ?_; rintro e w2 ⟨⟨v2, rfl, o2⟩, b2⟩
  have D2 := Lib.hid (below_more D1.out b2)
  have O2 := Lib.hid o2.ra
  clear b2 o2 CB x2
  go_wp2_with fail
  refine (CE.out w2 D2.out).mono ?_; rintro e w3 ⟨rfl, b3⟩
  have D3 := Lib.hid (below_more D2.out b3)
  obtain ⟨V, hV, HW⟩ := ed_boxed w3 e0
  have D4 := Lib.hid (below_more D3.out HW.out.2)
  have O4 := Lib.hid (ra_below (ra_below O2.out b3) HW.out.2)
  have ld := HW.out.1.load
  have ld2 : (edLoad (.pointer (some ⟨w3.heap.size, 0, none⟩))).run Try.prog V.drew = .ok (.agg (ec e0)) V.drew := (HW.out.1.below ((Below.refl _ _).drew)).load
  have HLD : Hid (∀ w', Below V.heap.size V w' → (edLoad (.pointer (some ⟨w3.heap.size, 0, none⟩))).run Try.prog w' = .ok (.agg (ec e0)) w') := Lib.hid fun w' hb => (HW.out.1.below hb).load
  clear b3 O2 CE D1 D2 D3
  go_upto_region 12 with fail
  have BV1 := Lib.hid (show Below V.heap.size V V.drew from (Below.refl _ _).drew)
  have BV2 : Hid (∀ o, Below V.heap.size V (V.drew.alloc o)) := Lib.hid fun o => bal BV1.out
  have BV3 : Hid (∀ o, Below V.heap.size V (V.alloc o).drew) := Lib.hid fun o => (bal (Below.refl _ _)).drew
  have HHV := Lib.hid (fun (w' : World) (hb : Below V.heap.size V w') => HH.out w' (below_more D4.out hb))
  go_cut [17, 18] (fun v17 v18 wx => v18 = .bool true ∧ Hid (RA blkE wx v17 P ∧ Below V.heap.size V wx))
  case first =>
    go_region_law (first
      | (go_simp; go_at_call 17
         with_reducible refine (HHV.out _ BV1.out).mono ?_
         rintro e wa ⟨⟨cw, rfl, oh⟩, ba⟩
         have OH : Hid (RU (wa.alloc (.cells (ec e0) 30)) (.slice (some ⟨V.heap.size, 0, none⟩) n cw) W0) := Lib.hid (oh.below (bal (Below.refl _ _))).ru
         have EH := Lib.hid (ED.out wa)
         have GW : Hid (Below V.heap.size V (wa.alloc (.cells (ec e0) 30))) := Lib.hid (bal (below_more BV1.out ba))
         have la := HLD.out wa (below_more BV1.out ba)
         clear oh ba)
      | (go_simp; go_at_call 17
         with_reducible refine (HHV.out _ (BV3.out _)).mono ?_
         rintro e wa ⟨⟨cw, rfl, oh⟩, ba⟩
         have hsz : (V.alloc (.cells (ec e0) 30)).drew.heap.size = V.heap.size + 1 := by
           show (V.alloc (.cells (ec e0) 30)).heap.size = V.heap.size + 1
           simp
         rw [hsz] at oh ⊢
         have OH : Hid (RU wa (.slice (some ⟨V.heap.size + 1, 0, none⟩) n cw) W0) := Lib.hid oh.ru
         have EH := Lib.hid (ra_below (ra_below (ED.out V) ((Below.refl _ _).drew)) ba)
         have GW : Hid (Below V.heap.size V wa) := Lib.hid (below_more (BV3.out _) ba)
         have la := HLD.out wa GW.out
         clear oh ba hsz)
      | (go_simp; go_at_call 16
         with_reducible refine (CA.out _ _ _ OH.out EH.out).mono ?_
         rintro e wv ⟨⟨vx, rfl, ox⟩, bx⟩
         have OX := Lib.hid ox.ru
         have GX := Lib.hid (below_more GW.out bx)
         clear ox bx)
      | (go_simp; go_at_call 15; refine (CK.out _ _ OX.out).mono ?_; rintro e wk ⟨⟨vk, rfl, ok⟩, bk⟩
         have OK := Lib.hid ok.ra
         have DK := Lib.hid (below_more GX.out bk)
         have OP := Lib.hid (ra_below O4.out (below_more GX.out bk))
         clear ok bk))
    all_goals
      go_wp2_with fail
      go_meet
      exact ⟨rfl, Lib.hid ⟨OK.out, DK.out⟩⟩
  case rest =>
    obtain ⟨rfl, HC⟩ := hcut
    have OK := Lib.hid HC.out.1
    have DK := Lib.hid (below_more D4.out HC.out.2)
    have OP := Lib.hid (ra_below O4.out HC.out.2)
    have SB : Hid (∀ w', Below wc.heap.size wc w' → Calls Try.prog 11 #[u17, v2] w' fun e w'' => e = .returned (.bool true) ∧ Below w'.heap.size w' w'') := Lib.hid fun w' hb => (blks_same (w := w') (ra_below OK.out hb) (ra_below OP.out hb)).mono fun e w'' ⟨h1, n, h2⟩ => ⟨h1, by subst h2; exact below_drewN (Below.refl _ _) n⟩
    have MP6 := Lib.hid (fun (w' : World) (hb : Below wc.heap.size wc w') => MP.out v2 w' (ra_below OP.out hb))
    have FP6 := Lib.hid (fun (w' : World) (hb : Below wc.heap.size wc w') => FP.out v2 w' (ra_below OP.out hb))
    have FL6 := Lib.hid (fun (w' : World) (hb : Below wc.heap.size wc w') => FL.out w' (below_more DK.out hb))
    have x1 : ∀ w', Below wc.heap.size wc w' → w'.cell? ⟨b, off + I * 3 + 1, none⟩ = some (.int .i64 s) := fun w' hb => (HX.out w' (below_more DK.out hb)).1
    clear CA CK MP FP FL HH HHV HX HLD ED O4 HV BV1 BV2 BV3 ld ld2 HC
    clear t1 t2 t3 t4 t5 t6 t7 t8
    go_wp2_with fail
    go_region_held3 (fun w' => Below wc.heap.size wc w')
      (first | exact (Below.refl _ _).drew | exact below_more ‹Below wc.heap.size wc _› hbq)
      (first
        | (go_at_call 11; refine (SB.out _ ‹Below wc.heap.size wc _›).mono ?_; rintro e wq ⟨rfl, hbq⟩)
        | (go_at_call 18; refine (MP6.out _ ‹Below wc.heap.size wc _›).mono ?_; rintro e wq ⟨rfl, hbq⟩)
        | (go_at_call 19; with_reducible refine (FP6.out _ ‹Below wc.heap.size wc _›).mono ?_; rintro e wq ⟨rfl, hbq⟩)
        | (go_at_call 19; with_reducible refine (FL6.out _ ‹Below wc.heap.size wc _›).mono ?_; rintro e wq ⟨rfl, hbq⟩)
        | (go_at_call 7; refine (awake_any _).mono ?_; rintro e wq ⟨rfl, hbq⟩))
    all_goals
      have HB := Lib.hid (below_more DK.out ‹Below wc.heap.size wc wq›)
      go_wp2
      go_ret
      exact ⟨rfl, HB.out⟩

theorem near (l : List Bk) (p : Option Addr) (c : Nat) (n i k : Int) (w : World) (hv : RA blkE w (.slice p l.length c) l) (h1 : l.length ≤ 300) (h2 : 0 < l.length) (h3 : mayL n l = true) :
    Calls Try.prog 4 #[.slice p l.length c, .int .i64 n, .int .i64 i, .int .i64 k] w fun e w' => e = .returned (.bool true) ∧ Below w.heap.size w w' := by
  obtain ⟨u1, I, t1, _, t3, t4, hI⟩ := place_of i l.length h2 h1
  have e : ∀ J : Nat, IntKind.i64.wrap ((IntKind.u64.wrap i).tmod l.length) = J → J = I := fun J h => by
    rw [t1, t3, t4] at h
    omega
  cases hu : (l.getD I default).u
  · exact free_ l p c n i k w hv h1 h2 h3 fun J _ h => by rw [e J h]; exact hu
  · exact used_ l p c n i k w hv h1 h2 h3 fun J _ h => by rw [e J h]; exact hu

theorem walk (l0 : List Bk) (v0 : Value) (a1 a2 a3 : Int) (w : World) (h0 : RA blkE w v0 l0) (_ : (Lit.int .i64 a1).wf = true) (_ : (Lit.int .i64 a2).wf = true) (_ : (Lit.int .i64 a3).wf = true) :
    Calls Try.prog 4 #[v0, .int .i64 a1, .int .i64 a2, .int .i64 a3] w fun e w' => e = .returned (.bool true) ∧ Below w.heap.size w w' := by
  obtain ⟨p, c, rfl, _⟩ := ra_shape h0
  by_cases h : 300 < l0.length ∨ l0.length = 0 ∨ mayL a1 l0 = false
  · exact far l0 p c a1 a2 a3 w h0 h
  · have h' := not_or.1 h
    have h'' := not_or.1 h'.2
    exact near l0 p c a1 a2 a3 w h0 (by omega) (by omega) (by simpa using h''.2)

set_option maxRecDepth 100000 in
theorem lifted (os : Os) (started : os.Started) (H : Type) (enc : TypeId × Value → H) :
    ReturnsInHanded {} Try.checked os 4 .any (Rows.mergeBackSpec.pre6 enc Try.prog Try.f4 Rows.mergeBackRow.domain false) (Rows.mergeBackSpec.post enc Try.prog Try.f4 false true false false) := by
  refine returnsInHanded_of_change (C := Try.checked) own started (by kernel_rfl) Try.func4
    (ChangeSpec.witness6 (enc := enc) (C := Try.checked) false ⟨#[], #[.slice none 0 0, .int .i64 0, .int .i64 0, .int .i64 0], []⟩ 8 (by kernel_rfl) (by kernel_rfl) (by kernel_rfl) (by kernel_rfl)) ?_
  intro W base args ds gs before hval0 hW hcnd _
  have hval : ∀ (j : Nat) t v, Try.f4.params[j]? = some t → args[j]? = some v → Value.okWide Try.prog W .any base t v := hval0
  have hW' := hW
  have hlt := hW.lt
  obtain ⟨p, q, hA0, hV, hpq, hfz, hnd⟩ := hW
  have hA : DataW.TrodAll enc Try.prog W 0 (fun _ => true) true Try.f4.params.toList args.toList ds p := hA0
  rw [Try.params4] at hA hval
  obtain ⟨v0, vs0, d0, ds0, p0, q0, hargs, rfl, hp, h0, r0⟩ := trodAll_cons hA
  obtain ⟨v1, vs1, d1, ds1, p1, q1, rfl, rfl, rfl, h1, r1⟩ := trodAll_cons r0
  obtain ⟨v2, vs2, d2, ds2, p2, q2, rfl, rfl, rfl, h2, r2⟩ := trodAll_cons r1
  obtain ⟨v3, vs3, d3, ds3, p3, q3, rfl, rfl, rfl, h3, r3⟩ := trodAll_cons r2
  obtain ⟨rfl, rfl, rfl⟩ := trodAll_nil r3
  obtain rfl : args = #[v0, v1, v2, v3] := by cases args; simp_all
  obtain ⟨rfl, rfl⟩ := trodVars_none hV
  have hlt' : ∀ x ∈ before, x.block < W.heap.size := fun x hx => hlt x hx
  obtain ⟨l0, w0⟩ := blocks_in (hval 0 22 v0 rfl rfl) h0
  obtain ⟨a1, rfl, rfl, rfl, w1⟩ := open_int Try.underlying3 (hval 1 3 v1 rfl rfl) h1
  obtain ⟨a2, rfl, rfl, rfl, w2⟩ := open_int Try.underlying3 (hval 2 3 v2 rfl rfl) h2
  obtain ⟨a3, rfl, rfl, rfl, w3⟩ := open_int Try.underlying3 (hval 3 3 v3 rfl rfl) h3
  refine (walk l0 v0 a1 a2 a3 W w0 w1 w2 w3).mono fun e W' ⟨he, hb⟩ => ?_
  subst he
  exact ⟨_, rfl, law_post rfl (by kernel_rfl) hW' (by rw [Try.params4]; intro t ht; simp only [List.mem_cons, List.not_mem_nil, or_false] at ht; (repeat' (first | (rcases ht with rfl | ht) | subst ht)) <;> exact ⟨by kernel_rfl, of_decide_eq_true (by kernel_rfl)⟩) rfl hb⟩

theorem over : Rows.mergeBackRow.holds Try.pinned (OpenSpec.ofChange Rows.mergeBackSpec) :=
  OpenClaim.holds_of_wide 4 Try.f4 rfl rfl rfl rfl rfl rfl rfl ⟨rfl, rfl, rfl, rfl, rfl⟩ rfl rfl rfl rfl rfl (by kernel_rfl) Try.func4 (by kernel_rfl)
    (of_decide_eq_true (by kernel_rfl)) (by unfold Func.isWrapper; first | (rw [if_pos (by decide +kernel)]; kernel_rfl) | (rw [if_neg (by decide +kernel)]; exact ⟨rfl, rfl⟩))
    (fun os started H enc _ => lifted os started H enc)

theorem proved : Rows.MergeBackSaid := over
end Go.Proofs.Ytlpbdnfecnochaa.mergeBack
