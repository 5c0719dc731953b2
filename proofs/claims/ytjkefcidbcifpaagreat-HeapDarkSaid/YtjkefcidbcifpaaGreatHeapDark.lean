/-
  Without power all is refused, and nothing is lost. No conditions.
-/
import Derived.Test.YtjkefcidbcifpaaGreatZng
namespace Go.Proofs.YtjkefcidbcifpaaGreat.heapDark
set_option maxRecDepth 100000
open Go.Proofs.YtjkefcidbcifpaaGreat Go.ChangeShapes Go.WideShapes Go.ChangeAt Go.RowKit
theorem dark_cut {s : Nv} {v : Int} (hd : s.dark = false) : ((s.cutAt 0 0).set 34 v).dark = true ∧ ((s.cutAt 0 0).set 34 v).rg = s.rg ∧ ((s.cutAt 0 0).set 34 v).h = s.h ∧ ((s.cutAt 0 0).set 34 v).n = s.n ∧ ((s.cutAt 0 0).set 34 v).c = s.c + 1 := by
 have hg : (s.cutAt 0 0).goes = true := by unfold Nv.goes Nv.cutAt; rfl
 have hr : (s.cutAt 0 0).rdy (hasR 34) = 0 := by
  have h1 : hasR 34 = true := by decide
  rw [h1]; unfold Nv.rdy
  have h2 : (s.cutAt 0 0).dark = false := hd
  rw [h2]; rfl
 have hb : ¬ (s.cutAt 0 0).by_ % 2 = 1 := by unfold Nv.by_; rw [if_pos hg]; show ¬ (0 : Int) % 2 = 1; decide
 have e : (s.cutAt 0 0).set 34 v = (s.cutAt 0 0).tick := by unfold Nv.set; rw [if_pos hr, if_neg hb]
 rw [e]
 refine ⟨?_, rfl, rfl, rfl, rfl⟩
 show ((s.cutAt 0 0).dark || (s.cutAt 0 0).goes) = true
 rw [hg]; simp
set_option maxRecDepth 100000 in
set_option maxHeartbeats 8000000 in
theorem walk (c0 e0 g0 k0 : Int) (l1 : List Px) (v1 : Value) (l2 : List Px) (v2 : Value) (w : World) (_ : (Lit.int .i64 c0).wf = true ∧ (Lit.int .i64 e0).wf = true ∧ (Lit.int .i64 g0).wf = true ∧ (Lit.int .i64 k0).wf = true) (w1 : RA (opE w) w v1 l1) (w2 : RA (opE w) w v2 l2) :
 Calls Tryz.prog 8 #[(Value.agg #[Value.int IntKind.i64 c0, Value.int IntKind.i64 e0, Value.int IntKind.i64 g0, Value.int IntKind.i64 k0]), v1, v2] w fun e w' => e = .returned (.bool true) ∧ Below w.heap.size w w' := by
 obtain ⟨W, hW, H0⟩ := plan_boxed w c0 e0 g0 k0
 have PQ := Lib.hid H0.out.1
 have HB := Lib.hid H0.out.2
 obtain ⟨p1, q1, rfl, _⟩ := ra_shape w1
 obtain ⟨p2, q2, rfl, _⟩ := ra_shape w2
 have W1 := Lib.hid w1
 have W2 := Lib.hid w2
 have HV1 := Lib.hid (heavy21b l1 [] _ (.slice none 0 0) (ra_below w1 HB.out) (ri_nil W))
 have HV2 := Lib.hid (fun w' (hb : Below w.heap.size w w') => heavy21b l2 [] _ (.slice none 0 0) (ra_below w2 hb) (ri_nil w'))
 have PW := Lib.hid (plan_raw c0 e0 g0 k0)
 clear w1 w2 H0
 go_enter Tryz.func8, Tryz.ntmps8
 go_wp2_with fail
 refine (HV1.out).mono ?_; rintro e w3 ⟨⟨r1, rfl, hr1, hl1⟩, b3⟩
 have B3 := Lib.hid b3
 clear b3
 go_wp2_with fail
 refine (HV2.out w3 (below_more HB.out B3.out)).mono ?_; rintro e w4 ⟨⟨r2, rfl, hr2, hl2⟩, b4⟩
 have B4 := Lib.hid (below_more B3.out b4)
 clear b4
 obtain ⟨R, hR⟩ : ∃ R : Nat, r1 + r2 = R := ⟨_, rfl⟩
 have iw : IntKind.i64.wrap ((r1 : Int) + (r2 : Int)) = (R : Int) := by
  rw [show (r1 : Int) + (r2 : Int) = (R : Int) by omega]
  exact i64_nat _ (by omega)
 by_cases h0 : R = 0
 rotate_left
 · have i1 : (R : Int) > 0 := by omega
   have i2 : 0 < R := by omega
   clear h0 hR hr1 hr2 hl1 hl2
   go_wp2_with fail
   refine (awake_any _).mono ?_; rintro e w5 ⟨rfl, b5⟩
   have D5 := Lib.hid (below_more HB.out (below_more B4.out b5))
   go_wp2_with fail
   go_ret
   exact ⟨rfl, D5.out⟩
 have L1 := Lib.hid (hl1 (by omega))
 have L2 := Lib.hid (hl2 (by omega))
 have i1 : ¬ (R : Int) > 0 := by omega
 have i2 : ¬ 0 < R := by omega
 have PQ4 := Lib.hid (PQ.out.below B4.out)
 have a0 := PQ4.out.c0
 have a1 := PQ4.out.c1
 have a2 : w4.cell? ⟨w.heap.size, 2, none⟩ = some (.int .i64 g0) := Whole.at_ PQ4.out 2
 have a3 : w4.cell? ⟨w.heap.size, 3, none⟩ = some (.int .i64 k0) := Whole.at_ PQ4.out 3
 clear h0 hR hr1 hr2 hl1 hl2 HV1 HV2
 go_wp2_with fail
 refine (PW.out _).mono ?_; rintro e w5 ⟨⟨N, P, per, b, rfl, hN⟩, b5⟩
 have HN := Lib.hid hN
 have PQ5 := Lib.hid (PQ4.out.below b5)
 have B5 := Lib.hid (below_more HB.out (below_more B4.out b5))
 clear b5 hN a0 a1 a2 a3
 have hst := PQ5.out.pstore (l' := (N : Int)) (s' := (P : Int)) (p' := (per : Int)) (b' := (b : Int))
 have HV := Lib.hid (And.intro (PQ5.out.pput (l' := (N : Int)) (s' := (P : Int)) (p' := (per : Int)) (b' := (b : Int))) (show Below w.heap.size w (w5.setRow w.heap.size #[Value.int IntKind.i64 (N : Int), Value.int IntKind.i64 (P : Int), Value.int IntKind.i64 (per : Int), Value.int IntKind.i64 (b : Int)]) from below_row B5.out (Nat.le_refl _)))
 obtain ⟨V, hV⟩ : ∃ V, w5.setRow w.heap.size #[Value.int IntKind.i64 (N : Int), Value.int IntKind.i64 (P : Int), Value.int IntKind.i64 (per : Int), Value.int IntKind.i64 (b : Int)] = V := ⟨_, rfl⟩
 rw [hV] at hst HV
 have lV := HV.out.1.load
 have MD := Lib.hid (made_is (w := V) (N := N) (P := P) (per := per) (b := b) (v := .slice none 0 0) (lim := []) (by have := HN.out; unfold MayN; omega) (ri_nil V))
 go_wp2_with fail
 refine (MD.out).mono ?_; rintro e w6 ⟨b6, ⟨a, S, ha, rfl, hnew, hp, hi, hw, hco, hfr, hct⟩ | ⟨hl, _⟩⟩
 rotate_left
 · exact absurd rfl hl
 have B6 := Lib.hid b6
 have H6 := Lib.hid (And.intro hp (And.intro hi (And.intro hco (And.intro (hfr rfl) hw))))
 have HA := Lib.hid ha
 have LO : Hid (∀ k ∈ a.D, V.heap.size ≤ k) := Lib.hid (by
  intro k hk
  simp only [Ha.D, List.mem_cons, List.not_mem_nil, or_false] at hk
  rcases hk with rfl | rfl | rfl | rfl <;> omega)
 have a0 := (HV.out.1.below b6).c0
 clear b6 hp hi hco hfr hw hct hnew ha lV hst MD
 have i8 : IntKind.i64.wrap ((N : Int) * 8) = ((8 * N : Nat) : Int) := by rw [show (N : Int) * 8 = ((8 * N : Nat) : Int) by omega]; exact i64_nat _ (by have := HN.out; omega)
 have C7 := Lib.hid (rnew_yes (8 * N) (by have := HN.out; unfold Mw; omega) w6)
 go_wp2_with fail
 refine (C7.out).mono ?_; rintro e w7 ⟨⟨g, rfl, hg, _, hR⟩, b7⟩
 have HR7 := Lib.hid (hrun_new (w0 := V) (fr := true) H6.out.1 H6.out.2.1 H6.out.2.2.1 (fun _ => H6.out.2.2.2) LO.out B6.out.size hg b7 B6.out hR)
 clear hR hg b7 C7 i8 a0 H6 B6 LO
 have HL1 := Lib.hid L1.out.len
 have HL2 := Lib.hid L2.out.len
 go_wp2
 go_loopw [50] (fun i wr => ∃ k : Nat, k ≤ l1.length ∧ i = .int .i64 k ∧ Hid (∃ S X r lb, HRun V wr a g (3 + k) true S X r lb)) (fun i _ => l1.length - (intOf i).toNat)
 case atStart => exact ⟨0, Nat.zero_le _, rfl, Lib.hid ⟨_, _, _, _, HR7.out⟩⟩
 case round =>
  clear HR7
  obtain ⟨k, hk, rfl, H⟩ := hrel
  by_cases hlt : k < l1.length
  · obtain ⟨S1, X1, r1, lb1, hrun⟩ := H.out
    obtain ⟨bb, off, hpp, _, hx⟩ := px_at (ra_below W1.out (below_more HV.out.2 hrun.b)) (by omega)
    subst hpp
    obtain ⟨hld, hwf⟩ := hx k hlt
    have hbl := L1.out.bl k hlt
    have i0 : (0 : Int) ≤ (k : Int) := by omega
    have i1 : (k : Int) < (l1.length : Int) := by omega
    have i3 : ¬ (k : Int) < 0 := by omega
    have i4 : IntKind.i64.wrap ((k : Int) + 1) = ((k + 1 : Nat) : Int) := by rw [show (k : Int) + 1 = ((k + 1 : Nat) : Int) by omega]; exact i64_nat _ (by have := HL1.out; omega)
    have HK := Lib.hid hlt
    clear hx hk hlt
    generalize l1.getD k default = x at *
    obtain ⟨W9, hW9, hst, HB9⟩ := px_boxed wr x hwf.one
    have R9 := Lib.hid (hrun.below HB9.out.2)
    have C := Lib.hid (R9.out.step x (by have := HK.out; have := HL1.out; omega) (hwf.up_h HV.out.2) (by omega))
    have ldx : (pxLoad (.pointer (some ⟨wr.heap.size, 0, none⟩))).run Tryz.prog W9 = .ok (.agg (pxc x)) W9 := run_pxLoad fun j u hj => by rw [Whole.at_ HB9.out.1, Nat.zero_add, ← hj]; simp [pxc]
    clear hrun hwf hbl H
    go_wp2_with fail
    refine (C.out).mono ?_; rintro e w' ⟨rfl, _, S', X', r', lb', h', _⟩
    have HN1 : Hid (∃ S X r lb, HRun V w' a g (3 + (k + 1)) true S X r lb) := Lib.hid ⟨_, _, _, _, h'⟩
    clear h' C
    go_wp2
    go_roundw
    case rel => exact ⟨k + 1, by have := HK.out; omega, by go_num, HN1⟩
    case measure => have := HK.out; simp [intOf]; omega
  · obtain rfl : k = l1.length := by omega
    obtain ⟨S1, X1, r1, lb1, hrun⟩ := H.out
    have R1 := Lib.hid hrun
    have HI1 := Lib.hid hrun.hi
    have OK1 := Lib.hid hrun.hi.hc.lg.g.ok
    obtain ⟨s2, hs2⟩ : ∃ s2, (S1.s.cutAt 0 0).set 34 5 = s2 := ⟨_, rfl⟩
    have DK := dark_cut (s := S1.s) (v := 5) hrun.hi.live
    rw [hs2] at DK
    have CC := Lib.hid (cut_is (s' := S1.s.cutAt 0 0) (n := 0) (m := 0) rfl hrun.hp.hb.lg.nm OK1.out (by decide))
    have CC2 := Lib.hid (fun (w' : World) (q : Nm w' a.g (S1.s.cutAt 0 0)) (ok : (S1.s.cutAt 0 0).Ok) => set_is (i := 34) (v := 5) (x := (S1.s.cutAt 0 0).setE 34) rfl hs2 q ok (by show S1.s.c < _; have := HI1.out.hc.c; have := HI1.out.hc.K; omega))
    have HD := Lib.hid DK
    clear hrun H hk hlt DK
    go_wp2_with fail
    refine (CC.out).mono ?_; rintro e w8 ⟨rfl, hN8, ok8, c8⟩
    have N8 := Lib.hid (And.intro hN8 (And.intro ok8 c8))
    clear hN8 ok8 c8 CC
    go_wp2_with fail
    refine (CC2.out _ N8.out.1 N8.out.2.1).mono ?_; rintro e w9 ⟨rfl, hN9, ok9, c9⟩
    have cg : Chg [a.g] wr w9 := N8.out.2.2.trans c9
    have gD : ∀ k ∈ [a.g], k ∈ g :: a.D := fun k hk => by rw [List.mem_singleton.1 hk]; simp [Ha.D]
    have G9 : Hid (Hp w9 a ⟨s2, S1.p, S1.ct, S1.wf⟩ ∧ Rm w9 (g :: a.D) g X1 lb1 (r1 : Int) ∧ Below V.heap.size V w9 ∧ s2.Ok) := Lib.hid ⟨R1.out.hp.mem cg hN9, R1.out.rm.chg cg gD (fun h => R1.out.hg (by rw [List.mem_singleton.1 h]; simp [Ha.D])), cg.below R1.out.b R1.out.b.size (fun k hk => R1.out.lo k (gD k hk)), ok9⟩
    clear hN9 ok9 c9 cg gD N8 CC2
    go_wp2
    go_loopw [66] (fun i wr => ∃ k : Nat, k ≤ l2.length ∧ i = .int .i64 k ∧ Hid (Below w9.heap.size w9 wr)) (fun i _ => l2.length - (intOf i).toNat)
    case atStart => exact ⟨0, Nat.zero_le _, rfl, Lib.hid (Below.refl _ _)⟩
    case round =>
     obtain ⟨k, hk, rfl, H⟩ := hrel
     by_cases hlt : k < l2.length
     · obtain ⟨bb, off, hpp, _, hx⟩ := px_at (ra_below W2.out (below_more HV.out.2 (below_more G9.out.2.2.1 H.out))) (by omega)
       subst hpp
       obtain ⟨hld, hwf⟩ := hx k hlt
       have i0 : (0 : Int) ≤ (k : Int) := by omega
       have i1 : (k : Int) < (l2.length : Int) := by omega
       have i3 : ¬ (k : Int) < 0 := by omega
       have i4 : IntKind.i64.wrap ((k : Int) + 1) = ((k + 1 : Nat) : Int) := by rw [show (k : Int) + 1 = ((k + 1 : Nat) : Int) by omega]; exact i64_nat _ (by have := HL2.out; omega)
       have HK := Lib.hid hlt
       clear hx hk hlt
       generalize l2.getD k default = x at *
       obtain ⟨W9, hW9, hst, HB9⟩ := px_boxed wr x hwf.one
       have H9 := Lib.hid (below_more H.out HB9.out.2)
       have C := Lib.hid (hdo_dark x (G9.out.1.below H9.out) HI1.out.num HD.out.1)
       have ldx : (pxLoad (.pointer (some ⟨wr.heap.size, 0, none⟩))).run Tryz.prog W9 = .ok (.agg (pxc x)) W9 := run_pxLoad fun j u hj => by rw [Whole.at_ HB9.out.1, Nat.zero_add, ← hj]; simp [pxc]
       have CX := Lib.hid (fun w' (hb : Below W9.heap.size W9 w') => (HB9.out.1.below hb).c0)
       clear hwf H
       obtain ⟨er, her⟩ : ∃ er : Int, (if May6 x.d then (2 : Int) else 1) = er := ⟨_, rfl⟩
       rw [her] at C
       go_wp2_with fail
       refine (C.out).mono ?_; rintro e wd ⟨rfl, bd⟩
       have HD9 := Lib.hid (below_more H9.out bd)
       have cx := CX.out _ bd
       obtain ⟨We, hWe, hst14, HA14⟩ := an_boxed wd er 0 (v := .slice none 0 0) rfl
       have HE9 := Lib.hid (below_more HD9.out HA14.out.2)
       have cx2 : We.cell? ⟨wr.heap.size, 0, none⟩ = some (.int .i64 x.d) := (CX.out _ (below_more bd HA14.out.2))
       have a0 := HA14.out.1.c0
       have lA := HA14.out.1.load
       have SM := Lib.hid (fun w' (hv : True) => same_self (w := w') (e := er) (o := 0) (ra_nil byE w') (ra_nil byE w'))
       clear bd C CX
       rcases Int.lt_or_le x.d 1 with d1 | d1
       · have e1 : er = 1 := by rw [← her]; exact if_neg (fun h => by unfold May6 at h; omega)
         have y1 : ¬ x.d ≥ 1 := by omega
         have y2 : ¬ (1 : Int) ≤ x.d := by omega
         subst e1
         clear her d1
         generalize x.d = xd at *
         go_wp2_with fail
         refine (SM.out _ trivial).mono ?_; rintro e wf ⟨rfl, bf⟩
         have HF9 : Hid (Below w9.heap.size w9 wf) := Lib.hid (below_more HE9.out bf)
         have a0f := (HA14.out.1.below bf).c0
         clear bf
         go_wp2_with fail
         go_roundw
         case rel => exact ⟨k + 1, by have := HK.out; omega, by go_num, HF9⟩
         case measure => have := HK.out; simp [intOf]; omega
       · rcases Int.lt_or_le 6 x.d with d6 | d6
         · have e1 : er = 1 := by rw [← her]; exact if_neg (fun h => by unfold May6 at h; omega)
           have y1 : x.d ≥ 1 := by omega
           have y2 : ¬ x.d ≤ 6 := by omega
           subst e1
           clear her d1 d6
           generalize x.d = xd at *
           go_wp2_with fail
           refine (SM.out _ trivial).mono ?_; rintro e wf ⟨rfl, bf⟩
           have HF9 : Hid (Below w9.heap.size w9 wf) := Lib.hid (below_more HE9.out bf)
           have a0f := (HA14.out.1.below bf).c0
           clear bf
           go_wp2_with fail
           go_roundw
           case rel => exact ⟨k + 1, by have := HK.out; omega, by go_num, HF9⟩
           case measure => have := HK.out; simp [intOf]; omega
         · have e1 : er = 2 := by rw [← her]; exact if_pos ⟨d1, d6⟩
           have y1 : x.d ≥ 1 := by omega
           have y2 : x.d ≤ 6 := by omega
           subst e1
           clear her d1 d6
           generalize x.d = xd at *
           go_wp2_with fail
           refine (SM.out _ trivial).mono ?_; rintro e wf ⟨rfl, bf⟩
           have HF9 : Hid (Below w9.heap.size w9 wf) := Lib.hid (below_more HE9.out bf)
           have a0f := (HA14.out.1.below bf).c0
           clear bf
           go_wp2_with fail
           go_roundw
           case rel => exact ⟨k + 1, by have := HK.out; omega, by go_num, HF9⟩
           case measure => have := HK.out; simp [intOf]; omega
     · obtain rfl : k = l2.length := by omega
       have BF := Lib.hid H.out
       clear H hk hlt
       have HPd := Lib.hid (fun w' (hb : Below w9.heap.size w9 w') => G9.out.1.below hb)
       have SN : Hid (s2.n = 16 + a.N + 1 + a.P) := Lib.hid (by have := HI1.out.hc.lg.g.nn; have := HD.out.2.2.2.1; omega)
       have C1 := Lib.hid (hWords_down (HPd.out _ BF.out) HI1.out.num HD.out.1)
       have C2 := Lib.hid (fun w' (hb : Below w9.heap.size w9 w') => hopen_down HI1.out.num (HPd.out _ hb).hb.lg.nm SN.out HD.out.1)
       have C3 := Lib.hid (fun w' (hb : Below w9.heap.size w9 w') => hformat_down HI1.out.num (HPd.out _ hb).hb.lg.nm SN.out HD.out.1)
       rw [HA.out.1, HA.out.2.1, HA.out.2.2.1, HA.out.2.2.2] at C2 C3
       have LP := Lib.hid (fun w' (hb : Below w9.heap.size w9 w') => (HV.out.1.below (below_more G9.out.2.2.1 hb)).load)
       go_wp2_with fail
       refine (C1.out).mono ?_; rintro e x1 ⟨rfl, b1⟩
       have B1 := Lib.hid (below_more BF.out b1)
       have l1' := LP.out _ B1.out
       clear b1 C1
       go_wp2_with fail
       refine (C2.out _ B1.out).mono ?_; rintro e x2 ⟨rfl, b2⟩
       have B2 := Lib.hid (below_more B1.out b2)
       have l2' := LP.out _ B2.out
       clear b2 C2 l1'
       go_wp2_with fail
       refine (C3.out _ B2.out).mono ?_; rintro e x3 ⟨rfl, b3⟩
       have B3' := Lib.hid (below_more B2.out b3)
       have C4 := Lib.hid (power_is (s' := s2.power) rfl (HPd.out _ B3'.out).hb.lg.nm G9.out.2.2.2)
       clear b3 C3 l2' LP
       go_wp2_with fail
       refine (C4.out).mono ?_; rintro e x4 ⟨rfl, hN4, ok4, c4⟩
       have gD : ∀ k ∈ [a.g], k ∈ g :: a.D := fun k hk => by rw [List.mem_singleton.1 hk]; simp [Ha.D]
       have HP4 := Lib.hid ((HPd.out _ B3'.out).mem c4 hN4)
       have RM4 := Lib.hid ((G9.out.2.1.below B3'.out).chg c4 gD (fun h => R1.out.hg (by rw [List.mem_singleton.1 h]; simp [Ha.D])))
       have BV4 : Hid (Below V.heap.size V x4) := Lib.hid (c4.below (below_more G9.out.2.2.1 B3'.out) (below_more G9.out.2.2.1 B3'.out).size (fun k hk => R1.out.lo k (gD k hk)))
       have HI4 := Lib.hid (HI1.out.keep1 (s' := s2.power) ok4 HD.out.2.2.2.1 HD.out.2.1 HD.out.2.2.1 (by show s2.c ≤ _; have := HD.out.2.2.2.2; omega) rfl (by have := HL1.out; omega))
       have CS := Lib.hid (says_is HP4.out HI4.out (by have := HL1.out; omega) rfl RM4.out)
       clear hN4 ok4 c4 gD C4
       go_wp2_with fail
       refine (CS.out).mono ?_; rintro e x5 ⟨rfl, b5⟩
       have BV5 := Lib.hid (below_more BV4.out b5)
       clear b5 CS
       go_wp2_with fail
       refine (awake_any _).mono ?_; rintro e x6 ⟨rfl, b6⟩
       have D6 := Lib.hid (below_more HV.out.2 (below_more BV5.out b6))
       go_wp2_with fail
       go_ret
       exact ⟨rfl, D6.out⟩
set_option maxRecDepth 100000 in
theorem lifted (os : Os) (started : os.Started) (H : Type) (enc : TypeId × Value → H) :
 ReturnsInHanded {} Tryz.checked os 8 .any (Rows.heapDarkSpec.pre6 enc Tryz.prog Tryz.f8 Rows.heapDarkRow.domain false) (Rows.heapDarkSpec.post enc Tryz.prog Tryz.f8 false true false false) := by
 refine returnsInHanded_of_change (C := Tryz.checked) own started (by kernel_rfl) Tryz.func8
  (ChangeSpec.witness6 (enc := enc) (C := Tryz.checked) false ⟨#[], #[.agg #[.int .i64 0, .int .i64 0, .int .i64 0, .int .i64 0], .slice none 0 0, .slice none 0 0], []⟩ 8 (by kernel_rfl) (by kernel_rfl) (by kernel_rfl) (by kernel_rfl)) ?_
 intro W base args ds gs before hval0 hW hcnd _
 have hval : ∀ (j : Nat) t v, Tryz.f8.params[j]? = some t → args[j]? = some v → Value.okWide Tryz.prog W .any base t v := hval0
 have hW' := hW
 have hlt := hW.lt
 obtain ⟨p, q, hA0, hV, hpq, hfz, hnd⟩ := hW
 have hA : DataW.TrodAll enc Tryz.prog W 0 (fun _ => true) true Tryz.f8.params.toList args.toList ds p := hA0
 rw [Tryz.params8] at hA hval
 obtain ⟨v0, vs0, d0, ds0, p0, q0, hargs, rfl, hp, h0, r0⟩ := trodAll_cons hA
 obtain ⟨v1, vs1, d1, ds1, p1, q1, rfl, rfl, rfl, h1, r1⟩ := trodAll_cons r0
 obtain ⟨v2, vs2, d2, ds2, p2, q2, rfl, rfl, rfl, h2, r2⟩ := trodAll_cons r1
 obtain ⟨rfl, rfl, rfl⟩ := trodAll_nil r2
 obtain rfl : args = #[v0, v1, v2] := by cases args; simp_all
 obtain ⟨rfl, rfl⟩ := trodVars_none hV
 have hlt' : ∀ x ∈ before, x.block < W.heap.size := fun x hx => hlt x hx
 obtain ⟨c0, e0, g0, k0, rfl, w0⟩ := plan_in (hval 0 23 v0 rfl rfl) h0
 obtain ⟨l1, w1⟩ := hops_in (hval 1 25 v1 rfl rfl) h1
 obtain ⟨l2, w2⟩ := hops_in (hval 2 25 v2 rfl rfl) h2
 refine (walk c0 e0 g0 k0 l1 v1 l2 v2 W w0 w1 w2).mono fun e W' ⟨he, hb⟩ => ?_
 subst he
 exact ⟨_, rfl, law_post rfl (by kernel_rfl) hW' (by rw [Tryz.params8]; intro t ht; simp only [List.mem_cons, List.not_mem_nil, or_false] at ht; (repeat' (first | (rcases ht with rfl | ht) | subst ht)) <;> exact ⟨by kernel_rfl, of_decide_eq_true (by kernel_rfl)⟩) rfl hb⟩
theorem over : Rows.heapDarkRow.holds Tryz.pinned (OpenSpec.ofChange Rows.heapDarkSpec) :=
 OpenClaim.holds_of_wide 8 Tryz.f8 rfl rfl rfl rfl rfl rfl rfl ⟨rfl, rfl, rfl, rfl, rfl⟩ rfl rfl rfl rfl rfl (by kernel_rfl) Tryz.func8 (by kernel_rfl)
  (of_decide_eq_true (by kernel_rfl)) (by unfold Func.isWrapper; first | (rw [if_pos (by decide +kernel)]; kernel_rfl) | (rw [if_neg (by decide +kernel)]; exact ⟨rfl, rfl⟩))
  (fun os started H enc _ => lifted os started H enc)
theorem proved : Rows.HeapDarkSaid := over
end Go.Proofs.YtjkefcidbcifpaaGreat.heapDark
