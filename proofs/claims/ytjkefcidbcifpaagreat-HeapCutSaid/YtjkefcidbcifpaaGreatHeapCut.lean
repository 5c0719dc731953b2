/-
  Behind a power cut at any write of an operation, and a recovery that is cut, too, again and again, all is as it was ahead of it, or as it made it; opened again it is the same. No conditions.
-/
import Derived.Deep.CutBlock
import Derived.Test.YtjkefcidbcifpaaGreatZof
namespace Go.Proofs.YtjkefcidbcifpaaGreat.heapCut
set_option maxRecDepth 100000
open Go.Proofs.YtjkefcidbcifpaaGreat Go.ChangeShapes Go.WideShapes Go.ChangeAt Go.RowKit
theorem ints_ext {s s' : Ct} (hn : s.n = s'.n) (h : ∀ q, q < s.n → s.c q = s'.c q) : s.ints = s'.ints := by
 unfold Ct.ints
 rw [← hn]
 refine List.ext_getElem (by simp [byF]) fun i i1 i2 => ?_
 simp only [byF, List.getElem_map, List.getElem_range]
 have hi : i < s.n := by simpa [byF] using i1
 rw [h i hi]
set_option maxRecDepth 100000 in
set_option maxHeartbeats 16000000 in
theorem walk (c0 e0 g0 k0 : Int) (lim : List Int) (vl : Value) (l1 : List Px) (v1 : Value) (x : Px) (at0 mk : Int) (ag : List Int) (va : Value) (w : World) (_ : (Lit.int .i64 c0).wf = true ∧ (Lit.int .i64 e0).wf = true ∧ (Lit.int .i64 g0).wf = true ∧ (Lit.int .i64 k0).wf = true) (wl0 : IntsIn .i64 w vl lim) (w1 : RA (opE w) w v1 l1) (hz : l1.length * 56 ≤ 140737488351232) (hx : x.Wf w) (_ : (Lit.int .i64 at0).wf = true) (_ : (Lit.int .i64 mk).wf = true) (wa0 : IntsIn .i64 w va ag) :
 Calls Tryz.prog 4 #[(Value.agg #[Value.int IntKind.i64 c0, Value.int IntKind.i64 e0, Value.int IntKind.i64 g0, Value.int IntKind.i64 k0]), vl, v1, .agg (pxc x), .int .i64 at0, .int .i64 mk, va] w fun e w' => e = .returned (.bool true) ∧ Below w.heap.size w w' := by
 have wl := ri_in wl0
 have wa := ri_in wa0
 obtain ⟨W0, hW0, H0⟩ := plan_boxed w c0 e0 g0 k0
 obtain ⟨q3, n3, hvv, _⟩ := ra_shape hx.rv
 obtain ⟨W, hW⟩ : ∃ W, W0.alloc (.cells (pxc x) 37) = W := ⟨_, rfl⟩
 have B1 : Below W0.heap.size W0 W := by rw [← hW]; exact bal (Below.refl _ _)
 have hs0 : W0.heap.size = w.heap.size + 1 := by rw [← hW0, size_alloc]
 have HB := jz (below_more H0.out.2 B1)
 have PQ := jz (H0.out.1.below B1)
 have PX : Hid (Pxv W W0.heap.size x) := jz (by rw [← hW]; exact Pxv.new W0 x)
 have WS : Hid (W.heap.size = w.heap.size + 2 ∧ W0.heap.size = w.heap.size + 1) := jz ⟨by rw [← hW, size_alloc, hs0], hs0⟩
 have lx : (pxLoad (.pointer (some ⟨W0.heap.size, 0, none⟩))).run Tryz.prog W = .ok (.agg (pxc x)) W := run_pxLoad fun j u hj => by rw [Whole.at_ PX.out, Nat.zero_add, ← hj]; simp [pxc]
 have hsl := run_opSlice1 W x hvv
 have HX := jz hx
 have WL := jz wl
 have WA := jz wa
 have W1 := jz w1
 have hxW : x.Wf W := hx.up_h HB.out
 have OX : Hid (OwnA (opE w) W.heap.size (W.alloc (.cells (pxc x) 37)) (.slice (some ⟨W.heap.size, 0, none⟩) 1 1) [x]) := jz (by
  have h := own_lit_a (opE w) W (l := [x]) (fun y hy => by rw [List.mem_singleton.1 hy]; exact hx) (by unfold maxLen; simp)
  simpa [pxc, opE] using h)
 have BX : Hid (Below W.heap.size W (W.alloc (.cells (pxc x) 37))) := jz (bal (Below.refl _ _))
 have RX1 := jz (ra_below w1 (below_more HB.out BX.out))
 obtain ⟨p1, q1, rfl, _⟩ := ra_shape w1
 obtain ⟨pl, ql, rfl, _⟩ := wl
 obtain ⟨pa, qa, rfl, _⟩ := wa
 have PW := jz (plan_raw c0 e0 g0 k0)
 clear w1 H0 wl0 wa0 hx hvv B1 hs0 hxW
 go_enter Tryz.func4, Tryz.ntmps4
 go_wp2_with (at_builtin; refine list_app (opE w) (o := ⟨some 38, _, _, _, _, _⟩) rfl (.tmp 36) (.tmp 37) rfl W.heap.size _ [x] rfl OX.out _ l1 rfl RX1.out (by show (1 + l1.length) * 56 ≤ _; omega) BX.out.size ?_)
 intro vq wq oq gq _
 have oq : OwnA (opE w) W.heap.size wq vq (x :: l1) := oq
 have BQ := jz (below_more HB.out (below_app BX.out BX.out.size OX.out gq))
 have BQW := jz (below_app BX.out BX.out.size OX.out gq)
 have HV1 := jz (heavy21b (x :: l1) lim vq (.slice pl lim.length ql) oq.ra (ri_below WL.out BQ.out))
 clear oq gq lx hsl OX BX RX1 hz
 go_wp2_with fail
 refine (HV1.out).mono ?_; rintro e w4 ⟨⟨R, rfl, hr1, hl1⟩, b4⟩
 have B4 := jz (below_more BQ.out b4)
 have BW4 := jz (below_more BQW.out b4)
 clear b4 HV1
 by_cases h0 : R = 0
 rotate_left
 · have i1 : (R : Int) > 0 := by omega
   have i2 : 0 < R := by omega
   clear h0 hr1 hl1
   go_wp2_with fail
   refine (awake_any _).mono ?_; rintro e w5 ⟨rfl, b5⟩
   have D5 := jz (below_more B4.out b5)
   go_wp2_with fail
   go_ret
   exact ⟨rfl, D5.out⟩
 have L0 := jz (hl1 (by omega))
 have i1 : ¬ (R : Int) > 0 := by omega
 have i2 : ¬ 0 < R := by omega
 by_cases h6 : 6 < ag.length
 · have i3 : (ag.length : Int) > 6 := by omega
   clear h0 hr1 hl1
   go_wp2_with fail
   refine (awake_any _).mono ?_; rintro e w5 ⟨rfl, b5⟩
   have D5 := jz (below_more B4.out b5)
   go_wp2_with fail
   go_ret
   exact ⟨rfl, D5.out⟩
 have i3 : ¬ (ag.length : Int) > 6 := by omega
 have H6a := jz h6
 have L1 : Hid (l1.length ≤ 79 ∧ x.bl.length ≤ 500 ∧ ∀ k, k < l1.length → (l1.getD k default).bl.length ≤ 500) := jz (by
  have h1 := L0.out.len
  simp only [List.length_cons] at h1
  refine ⟨by omega, ?_, fun k hk => ?_⟩
  · have := L0.out.bl 0 (by simp)
    simpa using this
  · have := L0.out.bl (k + 1) (by simp only [List.length_cons]; omega)
    simpa using this)
 have PQ4 := jz (PQ.out.below BW4.out)
 have PX4 := jz (PX.out.below BW4.out)
 have a0 := PQ4.out.c0
 have a1 := PQ4.out.c1
 have a2 : w4.cell? ⟨w.heap.size, 2, none⟩ = some (.int .i64 g0) := Whole.at_ PQ4.out 2
 have a3 : w4.cell? ⟨w.heap.size, 3, none⟩ = some (.int .i64 k0) := Whole.at_ PQ4.out 3
 clear h0 hr1 hl1 L0 h6
 go_wp2_with fail
 refine (PW.out _).mono ?_; rintro e w5 ⟨⟨N, P, per, b, rfl, hN⟩, b5⟩
 have HN := jz hN
 have PQ5 := jz (PQ4.out.below b5)
 have PX5 := jz (PX4.out.below b5)
 have B5 := jz (below_more B4.out b5)
 clear b5 hN a0 a1 a2 a3
 have hst := PQ5.out.pstore (l' := (N : Int)) (s' := (P : Int)) (p' := (per : Int)) (b' := (b : Int))
 have HV := jz (And.intro (PQ5.out.pput (l' := (N : Int)) (s' := (P : Int)) (p' := (per : Int)) (b' := (b : Int))) (show Below w.heap.size w (w5.setRow w.heap.size #[Value.int IntKind.i64 (N : Int), Value.int IntKind.i64 (P : Int), Value.int IntKind.i64 (per : Int), Value.int IntKind.i64 (b : Int)]) from below_row B5.out (Nat.le_refl _)))
 have PXV : Hid (Pxv (w5.setRow w.heap.size #[Value.int IntKind.i64 (N : Int), Value.int IntKind.i64 (P : Int), Value.int IntKind.i64 (per : Int), Value.int IntKind.i64 (b : Int)]) W0.heap.size x) := jz (((Chg.refl [w.heap.size] w5).setRow (.inl (List.mem_singleton.2 rfl)) _).whole PX5.out (by have := WS.out; simp; omega))
 obtain ⟨V, hV⟩ : ∃ V, w5.setRow w.heap.size #[Value.int IntKind.i64 (N : Int), Value.int IntKind.i64 (P : Int), Value.int IntKind.i64 (per : Int), Value.int IntKind.i64 (b : Int)] = V := ⟨_, rfl⟩
 rw [hV] at hst HV PXV
 have lV := HV.out.1.load
 have MD := jz (made_is (w := V) (N := N) (P := P) (per := per) (b := b) (v := .slice pl lim.length ql) (lim := lim) (by have := HN.out; unfold MayN; omega) (ri_below WL.out HV.out.2))
 clear PQ5 PX5 PQ4 PX4 BW4 BQW
 go_wp2_with fail
 refine (MD.out).mono ?_; rintro e w6 ⟨b6, ⟨a, S, ha, rfl, hnew, hp, hi, hw, hco, hfr, hct⟩ | ⟨hl, gm, rfl⟩⟩
 rotate_left
 · have i5 : 0 < lim.length := by
    rcases lim with _ | ⟨y, t⟩
    · exact absurd rfl hl
    · simp
   have i6 : (lim.length : Int) > 0 := by omega
   have B6 := jz (below_more HV.out.2 b6)
   clear hl b6 MD hst lV
   go_wp2_with fail
   refine (awake_any _).mono ?_; rintro e w7 ⟨rfl, b7⟩
   have D7 := jz (below_more B6.out b7)
   go_wp2_with fail
   go_ret
   exact ⟨rfl, D7.out⟩
 have B6 := jz b6
 have H6 := jz (And.intro hp (And.intro hi hco))
 have HA := jz ha
 have LO : Hid (∀ k ∈ a.D, V.heap.size ≤ k) := jz (by
  intro k hk
  simp only [Ha.D, List.mem_cons, List.not_mem_nil, or_false] at hk
  rcases hk with rfl | rfl | rfl | rfl <;> omega)
 have a0 := (HV.out.1.below b6).c0
 clear b6 hp hi hco hfr hw hct hnew ha lV hst MD
 have i8 : IntKind.i64.wrap ((N : Int) * 8) = ((8 * N : Nat) : Int) := by rw [show (N : Int) * 8 = ((8 * N : Nat) : Int) by omega]; exact i64_nat _ (by have := HN.out; omega)
 have C7 := jz (rnew_yes (8 * N) (by have := HN.out; unfold Mw; omega) w6)
 go_wp2_with fail
 refine (C7.out).mono ?_; rintro e w7 ⟨⟨g, rfl, hg, _, hR⟩, b7⟩
 have HR7 := jz (hrun_new (w0 := V) (fr := false) H6.out.1 H6.out.2.1 H6.out.2.2 (fun q => by cases q) LO.out B6.out.size hg b7 B6.out hR)
 clear hR hg b7 C7 i8 a0 H6 B6 LO
 have HL1 := jz L1.out.1
 go_wp2
 go_loopw [77] (fun i wr => ∃ k : Nat, k ≤ l1.length ∧ i = .int .i64 k ∧ Hid (∃ S X r lb, HRun V wr a g (3 + k) false S X r lb)) (fun i _ => l1.length - (intOf i).toNat)
 case atStart => exact ⟨0, Nat.zero_le _, rfl, jz ⟨_, _, _, _, HR7.out⟩⟩
 case round =>
  clear HR7
  obtain ⟨k, hk, rfl, H⟩ := hrel
  by_cases hlt : k < l1.length
  · obtain ⟨S1, X1, r1, lb1, hrun⟩ := H.out
    obtain ⟨bb, off, hpp, _, hx⟩ := px_at (ra_below W1.out (below_more HV.out.2 hrun.b)) (by omega)
    subst hpp
    obtain ⟨hld, hwf⟩ := hx k hlt
    have hbl := L1.out.2.2 k hlt
    have i0 : (0 : Int) ≤ (k : Int) := by omega
    have i1 : (k : Int) < (l1.length : Int) := by omega
    have i3 : ¬ (k : Int) < 0 := by omega
    have i4 : IntKind.i64.wrap ((k : Int) + 1) = ((k + 1 : Nat) : Int) := by rw [show (k : Int) + 1 = ((k + 1 : Nat) : Int) by omega]; exact i64_nat _ (by have := HL1.out; omega)
    have HK := jz hlt
    clear hx hk hlt
    generalize l1.getD k default = y at *
    obtain ⟨W9, hW9, hst, HB9⟩ := px_boxed wr y hwf.one
    have R9 := jz (hrun.below HB9.out.2)
    have C := jz (R9.out.step y (by have := HK.out; have := HL1.out; omega) (hwf.up_h HV.out.2) (by omega))
    have ldx : (pxLoad (.pointer (some ⟨wr.heap.size, 0, none⟩))).run Tryz.prog W9 = .ok (.agg (pxc y)) W9 := run_pxLoad fun j u hj => by rw [Whole.at_ HB9.out.1, Nat.zero_add, ← hj]; simp [pxc]
    clear hrun hwf hbl H
    go_wp2_with fail
    refine (C.out).mono ?_; rintro e w' ⟨rfl, _, S', X', r', lb', h', _⟩
    have HN1 : Hid (∃ S X r lb, HRun V w' a g (3 + (k + 1)) false S X r lb) := jz ⟨_, _, _, _, h'⟩
    clear h' C
    go_wp2
    go_roundw
    case rel => exact ⟨k + 1, by have := HK.out; omega, by go_num, HN1⟩
    case measure => have := HK.out; simp [intOf]; omega
  · obtain rfl : k = l1.length := by omega
    obtain ⟨S1, X1, r1, lb1, hrun⟩ := H.out
    have R1 := jz hrun
    have HI1 := jz hrun.hi
    have CW := jz (hWords_is hrun.hp.hb hrun.hi.num hrun.hi.hc.lg hrun.hi.live hrun.hi.hc.has)
    have CC := jz (fun w' (hb : Below wr.heap.size wr w') => hcnt_is (hrun.hp.below hb) (by have := hrun.hi.cn; have := hrun.hi.num.N; omega))
    have CL := jz (fun w' (hb : Below wr.heap.size wr w') => rclone_is w' (hrun.rm.below hb))
    clear hrun H hk hlt
    go_wp2_with fail
    refine (CW.out).mono ?_; rintro e w8 ⟨⟨v8, rfl, o8⟩, b8⟩
    have B8 := jz b8
    have O8 := jz o8
    obtain ⟨q8, n8, rfl⟩ := o8.shape
    clear o8 b8 CW
    go_wp2_with fail
    refine (CC.out _ B8.out).mono ?_; rintro e w9 ⟨⟨v9, rfl, o9⟩, b9⟩
    have B9 := jz (below_more B8.out b9)
    have O8b := jz (O8.out.below b9)
    have O9 := jz o9
    obtain ⟨q9, n9, rfl, _⟩ := o9.ri
    clear o9 b9 CC O8
    go_wp2_with fail
    refine (CL.out _ B9.out).mono ?_; rintro e w10 ⟨⟨gx, rfl, hx1, hx2, hRx⟩, b10⟩
    have RX := jz hRx
    have GX : Hid (w9.heap.size ≤ gx) := jz hx1
    have B10 := jz b10
    have O8c := jz (O8b.out.below b10)
    have O9b := jz (OwnI.below_h O9.out b10)
    have R9 := jz (R1.out.below B9.out)
    have PX10 := jz (PXV.out.below (below_more R9.out.b b10))
    have d0 := PX10.out.c0
    have d1 := PX10.out.c1
    have d2 := PX10.out.c2
    have d4 := PX10.out.c4
    clear hx1 hx2 hRx b10 O8b O9 CL
    go_upto_block 2 with fail
    go_cut [24, 25, 26] from 98 to 139 (fun _ _ _ wx => Hid (Below w9.heap.size w9 wx ∧ NextOf wx (gx :: g :: a.D) gx X1 r1 S1.ct.ints x))
    case first =>
     by_cases c1 : x.d = 1
     · have e1 : (x.d == 1) = true := by rw [c1]; rfl
       have CA := jz (ral_is X1 x.nn S1.ct.ints (.slice q8 X1.length n8) (.slice q9 S1.ct.ints.length n9) w10 O8c.out.ru (by have := HI1.out.len.1; have := HI1.out.num.N; omega) HI1.out.hc.ok O9b.out.ri)
       obtain ⟨vx, hWx, hvx, _⟩ := RX.out.rows
       have HWX := jz hWx
       have HVX := jz hvx
       have C1 := jz c1
       clear hWx hvx c1
       obtain ⟨er, her⟩ : ∃ er, (alR X1 x.nn S1.ct.ints).2.2 = er := ⟨_, rfl⟩
       rw [her] at CA
       go_wp2_with fail
       refine (CA.out).mono ?_; rintro e wa ⟨⟨u, rfl, ou⟩, ba⟩
       have BA := jz ba
       have OU := jz ou
       obtain ⟨qu, nu, rfl, _⟩ := ou.shape
       clear ba ou CA
       by_cases h0 : er = 0
       · subst h0
         obtain ⟨ln, hB, hok, hle, eX, er0⟩ := next_alloc (r := r1) HI1.out.len.1 HI1.out.hc.snd HI1.out.hc.ok her
         have xc : wa.cell? ⟨gx, 0, none⟩ = some vx := by rw [Whole.at_ ((BA.out.block gx HWX.out.lt).trans HWX.out)]; rfl
         have xf : wa.frozen? ⟨gx, 0, none⟩ = false := Whole.free ((BA.out.block gx HWX.out.lt).trans HWX.out) 0
         have CP := jz (rapply_any X1 (alR X1 x.nn S1.ct.ints).1 vx (.slice qu (alR X1 x.nn S1.ct.ints).1.length nu) wa (ru_below HVX.out BA.out) OU.out.ra (by have := HI1.out.len.1; have := HI1.out.num.N; omega) hle)
         have FIN : Hid (∀ wb ub, OwnU wa.heap.size wb ub (appF X1 (alR X1 x.nn S1.ct.ints).1) → Below wa.heap.size wa wb → (wb.cell? ⟨gx, 0, none⟩ = some vx ∧ wb.frozen? ⟨gx, 0, none⟩ = false) ∧ Below w9.heap.size w9 (wb.setCell ⟨gx, 0, none⟩ ub) ∧ NextOf (wb.setCell ⟨gx, 0, none⟩ ub) (gx :: g :: a.D) gx X1 r1 S1.ct.ints x) := jz fun wb ub ob bb => by
          have hb := below_more BA.out bb
          obtain ⟨h1, h2⟩ := RX.out.put hb ob BA.out.size hB hok
          have wx' := (hb.block gx HWX.out.lt).trans HWX.out
          refine ⟨⟨by rw [Whole.at_ wx']; rfl, Whole.free wx' 0⟩, Below.setCell (p := ⟨gx, 0, none⟩) (below_more B10.out hb) GX.out _, plA X1 r1 S1.ct.ints x.nn, ln, by rw [C1.out]; exact planA, ?_⟩
          rw [eX, er0]; exact h1
         clear hB hok hle eX er0 her
         go_wp2_with fail
         refine (CP.out).mono ?_; rintro e wb ⟨⟨ub, rfl, ob⟩, bb⟩
         obtain ⟨⟨f1, f2⟩, f3⟩ := FIN.out wb ub ob bb
         have F := jz f3
         obtain ⟨qb, nb, rfl⟩ := ob.shape
         clear ob bb f3 FIN CP xc xf
         go_wp2_with fail
         go_meet
         exact F
       · have e0 : (er == 0) = false := beq_eq_false_iff_ne.2 h0
         have F : Hid (Below w9.heap.size w9 wa ∧ NextOf wa (gx :: g :: a.D) gx X1 r1 S1.ct.ints x) := jz ⟨below_more B10.out BA.out, next_alloc_no (RX.out.below BA.out) C1.out (by rw [her]; exact h0)⟩
         clear her h0
         go_wp2_with fail
         go_meet
         exact F
     have e1 : (x.d == 1) = false := beq_eq_false_iff_ne.2 c1
     by_cases c2 : x.d = 2
     · have e2 : (x.d == 2) = true := by rw [c2]; rfl
       have CA := jz (rmfree_is x.o w10 RX.out)
       have HF := jz (fun w' (h : Rm w' (gx :: g :: a.D) gx (feW X1 lb1 x.o (r1 : Int)) (feB lb1 x.o (r1 : Int)) (r1 : Int)) (hc : Chg [gx] w10 w') => (show Below w9.heap.size w9 w' ∧ NextOf w' (gx :: g :: a.D) gx X1 r1 S1.ct.ints x from ⟨hc.below B10.out B10.out.size (fun k hk => by rw [List.mem_singleton.1 hk]; exact GX.out), next_free HI1.out.hc.ok RX.out.hB h c2⟩))
       clear c1 c2
       go_wp2_with fail
       refine (CA.out).mono ?_; rintro e wa ⟨rfl, h1, h2⟩
       have F := jz (HF.out _ h1 h2)
       clear h1 h2 CA HF
       go_wp2_with fail
       go_meet
       exact F
     have e2 : (x.d == 2) = false := beq_eq_false_iff_ne.2 c2
     by_cases c4 : x.d = 4
     · have e4 : (x.d == 4) = true := by rw [c4]; rfl
       have RV := jz (ra_below HX.out.rv (below_more HV.out.2 (below_more R9.out.b B10.out)))
       have CA := jz (rmwrite_x x.o x.bl x.v w10 RX.out RV.out (by have := L1.out.2.1; omega) (i64_wf HX.out.wo) (fun M hM => by
        obtain ⟨_, e2', e3', e4', _, _⟩ := aim_write HI1.out.len.1 HI1.out.hc.snd HI1.out.hc.ok RX.out.hB hM
        obtain ⟨h5, h6⟩ := e2' M hM
        rw [h5]; exact ⟨e3', e4', h6⟩))
       have HF := jz (fun w' (h : ∃ M, WrT X1 x.bl x.o M ∧ Rm w' (gx :: g :: a.D) gx (appF X1 M) lb1 (r1 : Int)) (hc : Chg [gx] w10 w') => (show Below w9.heap.size w9 w' ∧ NextOf w' (gx :: g :: a.D) gx X1 r1 S1.ct.ints x from ⟨hc.below B10.out B10.out.size (fun k hk => by rw [List.mem_singleton.1 hk]; exact GX.out), by
        obtain ⟨M, hM, h⟩ := h
        exact next_write HI1.out.len.1 HI1.out.hc.snd HI1.out.hc.ok RX.out.hB hM h c4⟩))
       clear c1 c2 c4
       go_wp2_with fail
       refine (CA.out).mono ?_; rintro e wa ⟨rfl, h1, h2⟩
       have F := jz (HF.out _ h1 h2)
       clear h1 h2 CA HF
       go_wp2_with fail
       go_meet
       exact F
     have e4 : (x.d == 4) = false := beq_eq_false_iff_ne.2 c4
     by_cases c5 : x.d = 5
     · have e5 : (x.d == 5) = true := by rw [c5]; rfl
       have CA := jz (rmsetr_is x.o w10 RX.out)
       have HF := jz (fun w' (h : Rm w' (gx :: g :: a.D) gx X1 lb1 (if srQ lb1 x.o = 0 then x.o else (r1 : Int))) (hc : Chg [gx] w10 w') => (show Below w9.heap.size w9 w' ∧ NextOf w' (gx :: g :: a.D) gx X1 r1 S1.ct.ints x from ⟨hc.below B10.out B10.out.size (fun k hk => by rw [List.mem_singleton.1 hk]; exact GX.out), next_root RX.out.hB h c5⟩))
       clear c1 c2 c4 c5
       go_wp2_with fail
       refine (CA.out).mono ?_; rintro e wa ⟨rfl, h1, h2⟩
       have F := jz (HF.out _ h1 h2)
       clear h1 h2 CA HF
       go_wp2_with fail
       go_meet
       exact F
     have e5 : (x.d == 5) = false := beq_eq_false_iff_ne.2 c5
     have F : Hid (Below w9.heap.size w9 w10 ∧ NextOf w10 (gx :: g :: a.D) gx X1 r1 S1.ct.ints x) := jz ⟨B10.out, next_other RX.out c1 c2 c4 c5⟩
     clear c1 c2 c4 c5
     go_wp2_with fail
     go_meet
     exact F
    case rest =>
     have BC := jz hcut.out.1
     obtain ⟨pln, ln, hPl, hRn⟩ := hcut.out.2
     have RC := jz (R9.out.below BC.out)
     have PL := jz hPl
     have RN := jz hRn
     have PXC := jz (PXV.out.below RC.out.b)
     have PQC := jz (HV.out.1.below RC.out.b)
     clear hcut hPl hRn d0 d1 d2 d4
     obtain ⟨ut, hut, _⟩ := u64_nat at0
     have m0 : ut % 80 < 80 := Nat.mod_lt _ (by decide)
     have t0 : (ut : Int).tmod 80 = ((ut % 80 : Nat) : Int) := tmod_nat ut 80
     generalize ut % 80 = n0 at *
     have kk0 : IntKind.i64.wrap (n0 : Int) = n0 := i64_nat _ (by omega)
     have CC := jz (cut_is (s' := S1.s.cutAt (n0 : Int) mk) (n := (n0 : Int)) (m := mk) rfl RC.out.hp.hb.lg.nm HI1.out.hc.lg.g.ok (by omega))
     clear m0
     go_wp2_with fail
     refine (CC.out).mono ?_; rintro e wd ⟨rfl, hNd, okd, cd⟩
     have gD : Hid (∀ k ∈ [a.g], k ∈ g :: a.D) := jz fun k hk => by rw [List.mem_singleton.1 hk]; simp [Ha.D]
     have gX : Hid (∀ k ∈ g :: a.D, k < w9.heap.size ∧ V.heap.size ≤ k) := jz fun k hk => ⟨R9.out.rm.dlt k hk, R1.out.lo k hk⟩
     have HPd := jz (RC.out.hp.mem cd hNd)
     have HId := jz (HI1.out.keep1 (s' := S1.s.cutAt (n0 : Int) mk) okd rfl rfl rfl (by show S1.s.c ≤ _; omega) HI1.out.live (by have := HL1.out; omega))
     have BVd : Hid (Below V.heap.size V wd) := jz (cd.below RC.out.b RC.out.b.size (fun k hk => (gX.out k (gD.out k hk)).2))
     have RMd := jz (RC.out.rm.chg cd gD.out (fun h => RC.out.hg (by rw [List.mem_singleton.1 h]; simp [Ha.D])))
     have RNd := jz (RN.out.chg cd (fun k hk => List.mem_cons_of_mem _ (gD.out k hk)) (fun h => by have := (gX.out a.g (by simp [Ha.D])).1; have := GX.out; rw [List.mem_singleton] at h; omega))
     have lxd : (pxLoad (.pointer (some ⟨W0.heap.size, 0, none⟩))).run Tryz.prog wd = .ok (.agg (pxc x)) wd := run_pxLoad fun j u hj => by rw [Whole.at_ (PXV.out.below BVd.out), Nat.zero_add, ← hj]; simp [pxc]
     have CD := jz (hdo_is x HPd.out HId.out (by have := HL1.out; omega) (px_ok HX.out (below_more HV.out.2 BVd.out) (by have := L1.out.2.1; omega)))
     clear hNd okd cd CC hut t0 kk0
     go_wp2_with fail
     refine (CD.out).mono ?_; rintro e wf hdo
     obtain ⟨E, o, v, S2, pl2, Xf, rf, rfl, hv1, hPl2, hp2, cf, hn2, hc2, hcon, hok0, hbad⟩ := do_past HId.out (by have := HL1.out; omega) hdo
     obtain rfl : pln = pl2 := PL.out.one hPl2
     obtain ⟨We, hWe, hst14, HA14⟩ := an_boxed wf E o hv1
     have cons2 : ∀ k ∈ a.D, k ∈ g :: a.D := fun k hk => List.mem_cons_of_mem _ hk
     have CON : Hid (((Xf = X1 ∧ rf = r1) ∨ (Xf = pln.X ∧ rf = pln.r)) ∧ (E = 0 → Xf = pln.X ∧ rf = pln.r) ∧ (E ≠ 0 → E ≠ 2 → Xf = X1 ∧ rf = r1)) := jz ⟨hcon, hok0, hbad⟩
     have BVe : Hid (Below V.heap.size V We) := jz (below_more (cf.below BVd.out BVd.out.size (fun k hk => (gX.out k (cons2 k hk)).2)) HA14.out.2)
     have RMe := jz ((RMd.out.chg cf cons2 RC.out.hg).below HA14.out.2)
     have RNe := jz ((RNd.out.chg cf (fun k hk => List.mem_cons_of_mem _ (cons2 k hk)) (fun h => by have := (gX.out gx (cons2 gx h)).1; have := GX.out; omega)).below HA14.out.2)
     have A14 := jz HA14.out.1
     have ME : Hid (∃ s', Nm We a.g s' ∧ HC s' a.N a.P (5 + l1.length) Xf rf ∧ s'.n = S1.s.n) := jz ⟨S2.s, hp2.hb.lg.nm.below HA14.out.2, (show 3 + l1.length + 1 + 1 = 5 + l1.length by omega) ▸ hc2, hn2⟩
     have AB : Hid (V.heap.size ≤ wf.heap.size ∧ a.g < wf.heap.size ∧ wf.heap.size < We.heap.size ∧ V.heap.size ≤ a.g) := jz ⟨by have := cf.size; have := BVd.out.size; omega, hp2.hb.lg.nm.lt, HA14.out.1.lt, (gX.out a.g (by simp [Ha.D])).2⟩
     have HAG := jz H6a.out
     clear hdo hv1 hPl2 hp2 cf hn2 hc2 hcon hok0 hbad cons2 CD lxd RMd RNd HPd HId BVd PXC PQC RC RN PL O8c O9b RX B10 PX10
     go_wp2
     go_loopw [152] (fun i wr => ∃ j : Nat, j ≤ ag.length ∧ i = .int .i64 j ∧ Hid ((∃ s', Nm wr a.g s' ∧ HC s' a.N a.P (5 + l1.length + j) Xf rf ∧ s'.n = S1.s.n) ∧ Chg [a.g] We wr)) (fun i _ => ag.length - (intOf i).toNat)
     case atStart => exact ⟨0, Nat.zero_le _, rfl, jz ⟨ME.out, Chg.refl _ _⟩⟩
     case round =>
      obtain ⟨j, hj, rfl, HJ⟩ := hrel
      have BJ : Hid (Below V.heap.size V wr) := jz (HJ.out.2.below BVe.out BVe.out.size (fun k hk => by rw [List.mem_singleton.1 hk]; exact AB.out.2.2.2))
      by_cases hlt : j < ag.length
      · obtain ⟨s', hNj, hCj, hnj⟩ := HJ.out.1
        have RA6 := jz (ri_below WA.out (below_more HV.out.2 BJ.out))
        obtain ⟨ga, oa, rfl, hcell⟩ : ∃ b0 o0, pa = some ⟨b0, o0, none⟩ ∧ ∀ i, i < ag.length → wr.cell? ⟨b0, o0 + i, none⟩ = some (.int .i64 (ag.getD i 0)) := by
         obtain ⟨p', c', e', _, _, h3⟩ := RA6.out
         cases e'
         rcases h3 with h3 | ⟨b', o', e, hc⟩
         · rw [h3] at hlt; simp at hlt
         · exact ⟨b', o', e, hc⟩
        have dj := hcell j hlt
        generalize ag.getD j 0 = c at dj
        have i0 : (0 : Int) ≤ (j : Int) := by omega
        have i1 : (j : Int) < (ag.length : Int) := by omega
        have i3 : ¬ (j : Int) < 0 := by omega
        have i4 : IntKind.i64.wrap ((j : Int) + 1) = ((j + 1 : Nat) : Int) := by rw [show (j : Int) + 1 = ((j + 1 : Nat) : Int) by omega]; exact i64_nat _ (by have := HAG.out; omega)
        have KJ := jz hlt
        have KK := jz (And.intro hCj hnj)
        have CP := jz (power_is (s' := s'.power) rfl hNj hCj.lg.g.ok)
        have HCJ := jz HJ.out.2
        clear hcell RA6 hj hlt hNj hCj hnj HJ
        go_wp2_with fail
        refine (CP.out).mono ?_; rintro e x1 ⟨rfl, hN1, ok1, ch1⟩
        have N1 := jz (And.intro hN1 (And.intro ok1 (HCJ.out.trans ch1)))
        clear hN1 ok1 ch1 CP dj
        obtain ⟨ut, hut, _⟩ := u64_nat c
        have m0 : ut % 60 < 60 := Nat.mod_lt _ (by decide)
        have t0 : (ut : Int).tmod 60 = ((ut % 60 : Nat) : Int) := tmod_nat ut 60
        generalize ut % 60 = n1 at *
        have kk0 : IntKind.i64.wrap (n1 : Int) = n1 := i64_nat _ (by omega)
        have CC := jz (fun m => cut_is (s' := s'.power.cutAt (n1 : Int) m) (n := (n1 : Int)) (m := m) rfl N1.out.1 N1.out.2.1 (by omega))
        clear m0
        go_wp2_with fail
        refine (CC.out _).mono ?_; rintro e x2 ⟨rfl, hN2, ok2, ch2⟩
        have N2 := jz (And.intro hN2 (N1.out.2.2.trans ch2))
        have BJ2 : Hid (Below V.heap.size V x2) := jz (N2.out.2.below BVe.out BVe.out.size (fun k hk => by rw [List.mem_singleton.1 hk]; exact AB.out.2.2.2))
        have lP := (HV.out.1.below BJ2.out).load
        have CO := jz (hopen_hcx (a := a) HI1.out.num (KK.out.1.keep ok2 rfl rfl rfl rfl) (by have := HL1.out; have := HAG.out; have := KJ.out; omega) rfl hN2)
        rw [HA.out.1, HA.out.2.1, HA.out.2.2.1, HA.out.2.2.2] at CO
        clear hN2 ok2 ch2 CC hut t0 kk0 N1
        go_wp2_with fail
        refine (CO.out).mono ?_; rintro e x3 ⟨c3, ⟨a3, S3, rfl, ⟨f1, f2, f3, f4, f5⟩, hp3, hi3, _, hn3, _⟩ | ⟨rfl, _, s3, hN3, hC3, hn3⟩⟩
        · have HN4 : Hid ((∃ s', Nm x3 a.g s' ∧ HC s' a.N a.P (5 + l1.length + (j + 1)) Xf rf ∧ s'.n = S1.s.n) ∧ Chg [a.g] We x3) := jz ⟨⟨S3.s, by have := hp3.hb.lg.nm; rw [f1] at this; exact this, by have := hi3.hc; rw [f2, f3] at this; exact this, hn3.trans KK.out.2⟩, N2.out.2.trans c3⟩
          clear c3 f1 f2 f3 f4 f5 hp3 hi3 hn3 CO lP
          go_wp2
          go_roundw
          case rel => exact ⟨j + 1, by have := KJ.out; omega, by go_num, HN4⟩
          case measure => have := KJ.out; simp [intOf]; omega
        · have HN4 : Hid ((∃ s', Nm x3 a.g s' ∧ HC s' a.N a.P (5 + l1.length + (j + 1)) Xf rf ∧ s'.n = S1.s.n) ∧ Chg [a.g] We x3) := jz ⟨⟨s3, hN3, hC3, hn3.trans KK.out.2⟩, N2.out.2.trans c3⟩
          clear c3 hN3 hC3 hn3 CO lP
          go_wp2
          go_roundw
          case rel => exact ⟨j + 1, by have := KJ.out; omega, by go_num, HN4⟩
          case measure => have := KJ.out; simp [intOf]; omega
      · obtain rfl : j = ag.length := by omega
        obtain ⟨s', hNj, hCj, hnj⟩ := HJ.out.1
        have KK := jz (And.intro hCj hnj)
        have CP := jz (power_is (s' := s'.power) rfl hNj hCj.lg.g.ok)
        have HCJ := jz HJ.out.2
        clear hj hlt hNj hCj hnj HJ
        go_wp2_with fail
        refine (CP.out).mono ?_; rintro e x1 ⟨rfl, hN1, ok1, ch1⟩
        have N1 := jz (HCJ.out.trans ch1)
        have BJ2 : Hid (Below V.heap.size V x1) := jz (N1.out.below BVe.out BVe.out.size (fun k hk => by rw [List.mem_singleton.1 hk]; exact AB.out.2.2.2))
        have lP := (HV.out.1.below BJ2.out).load
        have CO := jz (hopen_hcx (a := a) HI1.out.num (KK.out.1.keep ok1 rfl rfl rfl rfl) (by have := HL1.out; have := HAG.out; omega) rfl hN1)
        rw [HA.out.1, HA.out.2.1, HA.out.2.2.1, HA.out.2.2.2] at CO
        clear hN1 ok1 ch1 CP
        go_wp2_with fail
        refine (CO.out).mono ?_; rintro e x2 ⟨c2, ⟨a3, S3, rfl, ⟨f1, f2, f3, f4, f5⟩, hp3, hi3, hco3, hn3, hct3⟩ | ⟨_, hco, _⟩⟩
        rotate_left
        · cases hco
        have N2 := jz (N1.out.trans c2)
        have hco3 : S3.s.comes = false := hco3
        have X3 := jz (And.intro hp3 (And.intro hi3 hco3))
        have F3 := jz (And.intro f1 (And.intro f2 (And.intro f3 (And.intro f4 f5))))
        have T3 := jz hct3
        have BV2 : Hid (Below V.heap.size V x2) := jz (N2.out.below BVe.out BVe.out.size (fun k hk => by rw [List.mem_singleton.1 hk]; exact AB.out.2.2.2))
        have gN : Hid (∀ k ∈ [a.g], k ∈ g :: a.D) := gD
        have ng : g ≠ a.g := fun h => R1.out.hg (by rw [h]; simp [Ha.D])
        have ngx : gx ≠ a.g := fun h => by have := (gX.out a.g (by simp [Ha.D])).1; have := GX.out; omega
        have RM2 := jz (RMe.out.chg N2.out gN.out (fun h => ng (List.mem_singleton.1 h)))
        have RN2 := jz (RNe.out.chg N2.out (fun k hk => List.mem_cons_of_mem _ (gN.out k hk)) (fun h => ngx (List.mem_singleton.1 h)))
        obtain ⟨lf, hBf, _⟩ := sound_some hi3.hc.snd
        have HBf := jz hBf
        have A2 := jz (A14.out.chg N2.out (by have := AB.out; simp; omega))
        have NG := jz (And.intro ng ngx)
        have CS1 := jz (says_ex hp3 hi3 (by have := HL1.out; have := HAG.out; omega) hco3 hBf RM2.out)
        have CS2 := jz (fun w' (hb : Below x2.heap.size x2 w') => says_ex (hp3.below hb) hi3 (by have := HL1.out; have := HAG.out; omega) hco3 hBf (RN2.out.below hb))
        clear c2 f1 f2 f3 f4 f5 hp3 hi3 hco3 hn3 hct3 hBf ng ngx CO lP gN
        go_wp2_with fail
        refine (CS1.out).mono ?_; rintro e x3 ⟨⟨y1, rfl, hy1⟩, b3⟩
        have Y1 := jz hy1
        have B3 := jz b3
        clear hy1 b3 CS1
        go_wp2_with fail
        refine (CS2.out _ B3.out).mono ?_; rintro e x4 ⟨⟨y2, rfl, hy2⟩, b4⟩
        have Y2 := jz hy2
        have B4' := jz (below_more B3.out b4)
        clear hy2 b4 CS2
        have BV4 := jz (below_more BV2.out B4'.out)
        have aE := (A2.out.below B4'.out).c0
        have lP4 := (HV.out.1.below BV4.out).load
        have FACT : Hid ((E = 0 → y2 = 0) ∧ (E ≠ 0 → E ≠ 2 → y1 = 0) ∧ (y1 = 0 ∨ y2 = 0)) := jz (by
         have same1 : Xf = X1 → rf = r1 → y1 = 0 := fun h h' => Y1.out.2 (by
          subst h h'
          obtain rfl : lf = lb1 := Option.some.inj (HBf.out.symm.trans RM2.out.hB)
          exact SameC.refl _ _ _)
         have same2 : Xf = pln.X → rf = pln.r → y2 = 0 := fun h h' => Y2.out.2 (by
          subst h h'
          obtain rfl : lf = ln := Option.some.inj (HBf.out.symm.trans RN2.out.hB)
          exact SameC.refl _ _ _)
         refine ⟨fun h => ?_, fun h h' => ?_, ?_⟩
         · obtain ⟨h1, h2⟩ := CON.out.2.1 h
           exact same2 h1 h2
         · obtain ⟨h1, h2⟩ := CON.out.2.2 h h'
           exact same1 h1 h2
         · rcases CON.out.1 with ⟨h1, h2⟩ | ⟨h1, h2⟩
           · exact .inl (same1 h1 h2)
           · exact .inr (same2 h1 h2))
        have CO4 := jz (hopen_hcx (a := a3) (w := x4) X3.out.2.1.num X3.out.2.1.hc (by have := HL1.out; have := HAG.out; omega) X3.out.2.1.live (X3.out.1.below B4'.out).hb.lg.nm)
        rw [F3.out.1, F3.out.2.1, F3.out.2.2.1, F3.out.2.2.2.1, F3.out.2.2.2.2, HA.out.1, HA.out.2.1, HA.out.2.2.1, HA.out.2.2.2] at CO4
        have CO5 : Hid (Calls Tryz.prog 33 #[.pointer (some ⟨a.g, 0, none⟩), (Value.agg #[Value.int IntKind.i64 (N : Int), Value.int IntKind.i64 (P : Int), Value.int IntKind.i64 (per : Int), Value.int IntKind.i64 (b : Int)])] x4 fun e x5 => ∃ a5 : Ha, e = .returned (.tuple #[.pointer (some ⟨a5.z, 0, none⟩), .int .i64 0]) ∧ Below V.heap.size V x5 ∧
         (Calls Tryz.prog 18 #[.pointer (some ⟨a5.z, 0, none⟩), .pointer (some ⟨g, 0, none⟩)] x5 fun e w' => (∃ v : Int, e = .returned (.int .i64 v) ∧ (v = 0 ↔ y1 = 0)) ∧ Below x5.heap.size x5 w') ∧
         (∀ w', Below x5.heap.size x5 w' → Calls Tryz.prog 18 #[.pointer (some ⟨a5.z, 0, none⟩), .pointer (some ⟨gx, 0, none⟩)] w' fun e w2 => (∃ v : Int, e = .returned (.int .i64 v) ∧ (v = 0 ↔ y2 = 0)) ∧ Below w'.heap.size w' w2) ∧
         (∀ w', Below x5.heap.size x5 w' → Calls Tryz.prog 21 #[.pointer (some ⟨a3.z, 0, none⟩)] w' fun e w2 => (∃ v, e = .returned v ∧ OwnI w'.heap.size w2 v S3.ct.ints) ∧ Below w'.heap.size w' w2) ∧
         (∀ w', Below x5.heap.size x5 w' → Calls Tryz.prog 21 #[.pointer (some ⟨a5.z, 0, none⟩)] w' fun e w2 => (∃ v, e = .returned v ∧ OwnI w'.heap.size w2 v S3.ct.ints) ∧ Below w'.heap.size w' w2)) := jz (by
         refine CO4.out.mono ?_
         rintro e x5 ⟨c5, ⟨a5, S5, rfl, ⟨g1, g2, g3, g4, g5⟩, hp5, hi5, hco5, hn5, hct5⟩ | ⟨_, hco, _⟩⟩
         rotate_left
         · rw [X3.out.2.2] at hco; cases hco
         rw [F3.out.1] at c5 g1
         have hco5 : S5.s.comes = false := hco5.trans X3.out.2.2
         have RM5 := (RM2.out.below B4'.out).chg c5 gD.out (fun h => NG.out.1 (List.mem_singleton.1 h))
         have RN5 := (RN2.out.below B4'.out).chg c5 (fun k hk => List.mem_cons_of_mem _ (gD.out k hk)) (fun h => NG.out.2 (List.mem_singleton.1 h))
         have HX5 : Hp x5 a3 ⟨S5.s, S3.p, S3.ct, S3.wf⟩ := (X3.out.1.below B4'.out).mem (by rw [F3.out.1]; exact c5) (by have := hp5.hb.lg.nm; rw [g1] at this; rw [F3.out.1]; exact this)
         have hn3c : S3.ct.n = (N + 3) / 4 := by have := X3.out.2.1.cn; rw [F3.out.2.1, HA.out.1] at this; exact this
         have hn5c : S5.ct.n = (N + 3) / 4 := by have := hi5.cn; rw [g2, F3.out.2.1, HA.out.1] at this; exact this
         have INT : S3.ct.ints = S5.ct.ints := ints_ext (hn3c.trans hn5c.symm) fun q hq => by
          have hq' : q < (N + 3) / 4 := by omega
          obtain ⟨k1, k2⟩ := T3.out q (by rw [HA.out.1]; exact hq')
          obtain ⟨k3, _⟩ := hct5 q (by rw [F3.out.2.1, HA.out.1]; exact hq')
          rw [k2, k1] at k3
          omega
         have hK : 5 + l1.length + ag.length + 1 + 1 < 1000 := by have := HL1.out; have := HAG.out; omega
         refine ⟨a5, rfl, c5.below BV4.out BV4.out.size (fun k hk => by rw [List.mem_singleton.1 hk]; exact AB.out.2.2.2), ?_, fun w' hb => ?_, fun w' hb => hcnt_is (S := ⟨S5.s, S3.p, S3.ct, S3.wf⟩) (HX5.below hb) (by have := HN.out; show S3.ct.n ≤ 16; omega), fun w' hb => ?_⟩
         · refine (says_ex hp5 hi5 hK hco5 HBf.out RM5).mono ?_
           rintro e w' ⟨⟨v, rfl, hv⟩, hb⟩
           exact ⟨⟨v, rfl, hv.trans Y1.out.symm⟩, hb⟩
         · refine (says_ex (hp5.below hb) hi5 hK hco5 HBf.out (RN5.below hb)).mono ?_
           rintro e w' ⟨⟨v, rfl, hv⟩, hb⟩
           exact ⟨⟨v, rfl, hv.trans Y2.out.symm⟩, hb⟩
         · rw [INT]
           exact hcnt_is (hp5.below hb) (by have := HN.out; omega))
        clear CO4
        rcases Classical.em (y1 = 0) with h1 | h1
        · rcases Classical.em (y2 = 0) with h2 | h2
          · have s1 : (y1 == 0) = true := beq_iff_eq.2 h1
            have s2 : (y2 == 0) = true := beq_iff_eq.2 h2
            rcases Classical.em (E = 0) with hE | hE
            · have t1 : (E == 0) = true := beq_iff_eq.2 hE
              have t2 : (E != 0) = false := by simpa using hE
              have U1 := jz h1
              have U2 := jz h2
              clear h1 h2 hE
              go_wp2_with fail
              refine (CO5.out).mono ?_; rintro e x5 ⟨a5, rfl, h5, h6, h7, h8, h9⟩
              have H5 := jz (And.intro h5 (And.intro h6 (And.intro h7 (And.intro h8 h9))))
              clear h5 h6 h7 h8 h9 CO5 lP4 aE
              go_wp2_with fail
              refine (H5.out.2.1).mono ?_; rintro e x6 ⟨⟨y3, rfl, hy3⟩, b6⟩
              have B6' := jz b6
              have s3 : (y3 == 0) = true := beq_iff_eq.2 (hy3.2 U1.out)
              clear hy3 b6
              go_wp2_with fail
              refine (H5.out.2.2.1 _ B6'.out).mono ?_; rintro e x7 ⟨⟨y4, rfl, hy4⟩, b7⟩
              have B7' := jz (below_more B6'.out b7)
              have s4 : (y4 == 0) = true := beq_iff_eq.2 (hy4.2 U2.out)
              clear hy4 b7
              go_wp2_with fail
              refine (H5.out.2.2.2.1 _ B7'.out).mono ?_; rintro e x8 ⟨⟨v8', rfl, o8'⟩, b8'⟩
              have B8' := jz (below_more B7'.out b8')
              have O8' := jz o8'
              obtain ⟨q8', n8', rfl, _⟩ := o8'.ri
              clear o8' b8'
              go_wp2_with fail
              refine (H5.out.2.2.2.2 _ B8'.out).mono ?_; rintro e x9 ⟨⟨v9', rfl, o9'⟩, b9'⟩
              have B9' := jz (below_more B8'.out b9')
              have KI := jz (ints_same (OwnI.below_h O8'.out b9').ri o9'.ri)
              obtain ⟨q9', n9', rfl, _⟩ := o9'.ri
              clear o9' b9'
              go_wp2_with fail
              refine (KI.out).mono ?_; rintro e xa ⟨rfl, na, rfl⟩
              go_wp2_with fail
              refine (awake_any _).mono ?_; rintro e xb ⟨rfl, bb⟩
              have DF := jz (below_more HV.out.2 (below_more H5.out.1 (below_more (below_drewN B9'.out na) bb)))
              go_wp2_with fail
              go_ret
              exact ⟨rfl, DF.out⟩
            · have t1 : (E == 0) = false := beq_eq_false_iff_ne.2 hE
              have t2 : (E != 0) = true := by simpa using hE
              rcases Classical.em (E = 2) with hF | hF
              · have t3 : (E == 2) = true := beq_iff_eq.2 hF
                have t4 : (E != 2) = false := by simpa using hF
                have U1 := jz h1
                have U2 := jz h2
                clear h1 h2 hE hF
                go_wp2_with fail
                refine (CO5.out).mono ?_; rintro e x5 ⟨a5, rfl, h5, h6, h7, h8, h9⟩
                have H5 := jz (And.intro h5 (And.intro h6 (And.intro h7 (And.intro h8 h9))))
                clear h5 h6 h7 h8 h9 CO5 lP4 aE
                go_wp2_with fail
                refine (H5.out.2.1).mono ?_; rintro e x6 ⟨⟨y3, rfl, hy3⟩, b6⟩
                have B6' := jz b6
                have s3 : (y3 == 0) = true := beq_iff_eq.2 (hy3.2 U1.out)
                clear hy3 b6
                go_wp2_with fail
                refine (H5.out.2.2.1 _ B6'.out).mono ?_; rintro e x7 ⟨⟨y4, rfl, hy4⟩, b7⟩
                have B7' := jz (below_more B6'.out b7)
                have s4 : (y4 == 0) = true := beq_iff_eq.2 (hy4.2 U2.out)
                clear hy4 b7
                go_wp2_with fail
                refine (H5.out.2.2.2.1 _ B7'.out).mono ?_; rintro e x8 ⟨⟨v8', rfl, o8'⟩, b8'⟩
                have B8' := jz (below_more B7'.out b8')
                have O8' := jz o8'
                obtain ⟨q8', n8', rfl, _⟩ := o8'.ri
                clear o8' b8'
                go_wp2_with fail
                refine (H5.out.2.2.2.2 _ B8'.out).mono ?_; rintro e x9 ⟨⟨v9', rfl, o9'⟩, b9'⟩
                have B9' := jz (below_more B8'.out b9')
                have KI := jz (ints_same (OwnI.below_h O8'.out b9').ri o9'.ri)
                obtain ⟨q9', n9', rfl, _⟩ := o9'.ri
                clear o9' b9'
                go_wp2_with fail
                refine (KI.out).mono ?_; rintro e xa ⟨rfl, na, rfl⟩
                go_wp2_with fail
                refine (awake_any _).mono ?_; rintro e xb ⟨rfl, bb⟩
                have DF := jz (below_more HV.out.2 (below_more H5.out.1 (below_more (below_drewN B9'.out na) bb)))
                go_wp2_with fail
                go_ret
                exact ⟨rfl, DF.out⟩
              · have t3 : (E == 2) = false := beq_eq_false_iff_ne.2 hF
                have t4 : (E != 2) = true := by simpa using hF
                have U1 := jz h1
                have U2 := jz h2
                clear h1 h2 hE hF
                go_wp2_with fail
                refine (CO5.out).mono ?_; rintro e x5 ⟨a5, rfl, h5, h6, h7, h8, h9⟩
                have H5 := jz (And.intro h5 (And.intro h6 (And.intro h7 (And.intro h8 h9))))
                clear h5 h6 h7 h8 h9 CO5 lP4 aE
                go_wp2_with fail
                refine (H5.out.2.1).mono ?_; rintro e x6 ⟨⟨y3, rfl, hy3⟩, b6⟩
                have B6' := jz b6
                have s3 : (y3 == 0) = true := beq_iff_eq.2 (hy3.2 U1.out)
                clear hy3 b6
                go_wp2_with fail
                refine (H5.out.2.2.1 _ B6'.out).mono ?_; rintro e x7 ⟨⟨y4, rfl, hy4⟩, b7⟩
                have B7' := jz (below_more B6'.out b7)
                have s4 : (y4 == 0) = true := beq_iff_eq.2 (hy4.2 U2.out)
                clear hy4 b7
                go_wp2_with fail
                refine (H5.out.2.2.2.1 _ B7'.out).mono ?_; rintro e x8 ⟨⟨v8', rfl, o8'⟩, b8'⟩
                have B8' := jz (below_more B7'.out b8')
                have O8' := jz o8'
                obtain ⟨q8', n8', rfl, _⟩ := o8'.ri
                clear o8' b8'
                go_wp2_with fail
                refine (H5.out.2.2.2.2 _ B8'.out).mono ?_; rintro e x9 ⟨⟨v9', rfl, o9'⟩, b9'⟩
                have B9' := jz (below_more B8'.out b9')
                have KI := jz (ints_same (OwnI.below_h O8'.out b9').ri o9'.ri)
                obtain ⟨q9', n9', rfl, _⟩ := o9'.ri
                clear o9' b9'
                go_wp2_with fail
                refine (KI.out).mono ?_; rintro e xa ⟨rfl, na, rfl⟩
                go_wp2_with fail
                refine (awake_any _).mono ?_; rintro e xb ⟨rfl, bb⟩
                have DF := jz (below_more HV.out.2 (below_more H5.out.1 (below_more (below_drewN B9'.out na) bb)))
                go_wp2_with fail
                go_ret
                exact ⟨rfl, DF.out⟩
          · have s1 : (y1 == 0) = true := beq_iff_eq.2 h1
            have s2 : (y2 == 0) = false := beq_eq_false_iff_ne.2 h2
            have hE : E ≠ 0 := fun q => h2 (FACT.out.1 q)
            have t1 : (E == 0) = false := beq_eq_false_iff_ne.2 hE
            have t2 : (E != 0) = true := by simpa using hE
            rcases Classical.em (E = 2) with hF | hF
            · have t3 : (E == 2) = true := beq_iff_eq.2 hF
              have t4 : (E != 2) = false := by simpa using hF
              have U1 := jz h1
              have U2 := jz h2
              clear h1 h2 hE hF
              go_wp2_with fail
              refine (CO5.out).mono ?_; rintro e x5 ⟨a5, rfl, h5, h6, h7, h8, h9⟩
              have H5 := jz (And.intro h5 (And.intro h6 (And.intro h7 (And.intro h8 h9))))
              clear h5 h6 h7 h8 h9 CO5 lP4 aE
              go_wp2_with fail
              refine (H5.out.2.1).mono ?_; rintro e x6 ⟨⟨y3, rfl, hy3⟩, b6⟩
              have B6' := jz b6
              have s3 : (y3 == 0) = true := beq_iff_eq.2 (hy3.2 U1.out)
              clear hy3 b6
              go_wp2_with fail
              refine (H5.out.2.2.1 _ B6'.out).mono ?_; rintro e x7 ⟨⟨y4, rfl, hy4⟩, b7⟩
              have B7' := jz (below_more B6'.out b7)
              have s4 : (y4 == 0) = false := beq_eq_false_iff_ne.2 fun q => U2.out (hy4.1 q)
              clear hy4 b7
              go_wp2_with fail
              refine (H5.out.2.2.2.1 _ B7'.out).mono ?_; rintro e x8 ⟨⟨v8', rfl, o8'⟩, b8'⟩
              have B8' := jz (below_more B7'.out b8')
              have O8' := jz o8'
              obtain ⟨q8', n8', rfl, _⟩ := o8'.ri
              clear o8' b8'
              go_wp2_with fail
              refine (H5.out.2.2.2.2 _ B8'.out).mono ?_; rintro e x9 ⟨⟨v9', rfl, o9'⟩, b9'⟩
              have B9' := jz (below_more B8'.out b9')
              have KI := jz (ints_same (OwnI.below_h O8'.out b9').ri o9'.ri)
              obtain ⟨q9', n9', rfl, _⟩ := o9'.ri
              clear o9' b9'
              go_wp2_with fail
              refine (KI.out).mono ?_; rintro e xa ⟨rfl, na, rfl⟩
              go_wp2_with fail
              refine (awake_any _).mono ?_; rintro e xb ⟨rfl, bb⟩
              have DF := jz (below_more HV.out.2 (below_more H5.out.1 (below_more (below_drewN B9'.out na) bb)))
              go_wp2_with fail
              go_ret
              exact ⟨rfl, DF.out⟩
            · have t3 : (E == 2) = false := beq_eq_false_iff_ne.2 hF
              have t4 : (E != 2) = true := by simpa using hF
              have U1 := jz h1
              have U2 := jz h2
              clear h1 h2 hE hF
              go_wp2_with fail
              refine (CO5.out).mono ?_; rintro e x5 ⟨a5, rfl, h5, h6, h7, h8, h9⟩
              have H5 := jz (And.intro h5 (And.intro h6 (And.intro h7 (And.intro h8 h9))))
              clear h5 h6 h7 h8 h9 CO5 lP4 aE
              go_wp2_with fail
              refine (H5.out.2.1).mono ?_; rintro e x6 ⟨⟨y3, rfl, hy3⟩, b6⟩
              have B6' := jz b6
              have s3 : (y3 == 0) = true := beq_iff_eq.2 (hy3.2 U1.out)
              clear hy3 b6
              go_wp2_with fail
              refine (H5.out.2.2.1 _ B6'.out).mono ?_; rintro e x7 ⟨⟨y4, rfl, hy4⟩, b7⟩
              have B7' := jz (below_more B6'.out b7)
              have s4 : (y4 == 0) = false := beq_eq_false_iff_ne.2 fun q => U2.out (hy4.1 q)
              clear hy4 b7
              go_wp2_with fail
              refine (H5.out.2.2.2.1 _ B7'.out).mono ?_; rintro e x8 ⟨⟨v8', rfl, o8'⟩, b8'⟩
              have B8' := jz (below_more B7'.out b8')
              have O8' := jz o8'
              obtain ⟨q8', n8', rfl, _⟩ := o8'.ri
              clear o8' b8'
              go_wp2_with fail
              refine (H5.out.2.2.2.2 _ B8'.out).mono ?_; rintro e x9 ⟨⟨v9', rfl, o9'⟩, b9'⟩
              have B9' := jz (below_more B8'.out b9')
              have KI := jz (ints_same (OwnI.below_h O8'.out b9').ri o9'.ri)
              obtain ⟨q9', n9', rfl, _⟩ := o9'.ri
              clear o9' b9'
              go_wp2_with fail
              refine (KI.out).mono ?_; rintro e xa ⟨rfl, na, rfl⟩
              go_wp2_with fail
              refine (awake_any _).mono ?_; rintro e xb ⟨rfl, bb⟩
              have DF := jz (below_more HV.out.2 (below_more H5.out.1 (below_more (below_drewN B9'.out na) bb)))
              go_wp2_with fail
              go_ret
              exact ⟨rfl, DF.out⟩
        · have h2 : y2 = 0 := FACT.out.2.2.resolve_left h1
          have s1 : (y1 == 0) = false := beq_eq_false_iff_ne.2 h1
          have s2 : (y2 == 0) = true := beq_iff_eq.2 h2
          rcases Classical.em (E = 0) with hE | hE
          · have t1 : (E == 0) = true := beq_iff_eq.2 hE
            have t2 : (E != 0) = false := by simpa using hE
            have U1 := jz h1
            have U2 := jz h2
            clear h1 h2 hE
            go_wp2_with fail
            refine (CO5.out).mono ?_; rintro e x5 ⟨a5, rfl, h5, h6, h7, h8, h9⟩
            have H5 := jz (And.intro h5 (And.intro h6 (And.intro h7 (And.intro h8 h9))))
            clear h5 h6 h7 h8 h9 CO5 lP4 aE
            go_wp2_with fail
            refine (H5.out.2.1).mono ?_; rintro e x6 ⟨⟨y3, rfl, hy3⟩, b6⟩
            have B6' := jz b6
            have s3 : (y3 == 0) = false := beq_eq_false_iff_ne.2 fun q => U1.out (hy3.1 q)
            clear hy3 b6
            go_wp2_with fail
            refine (H5.out.2.2.1 _ B6'.out).mono ?_; rintro e x7 ⟨⟨y4, rfl, hy4⟩, b7⟩
            have B7' := jz (below_more B6'.out b7)
            have s4 : (y4 == 0) = true := beq_iff_eq.2 (hy4.2 U2.out)
            clear hy4 b7
            go_wp2_with fail
            refine (H5.out.2.2.2.1 _ B7'.out).mono ?_; rintro e x8 ⟨⟨v8', rfl, o8'⟩, b8'⟩
            have B8' := jz (below_more B7'.out b8')
            have O8' := jz o8'
            obtain ⟨q8', n8', rfl, _⟩ := o8'.ri
            clear o8' b8'
            go_wp2_with fail
            refine (H5.out.2.2.2.2 _ B8'.out).mono ?_; rintro e x9 ⟨⟨v9', rfl, o9'⟩, b9'⟩
            have B9' := jz (below_more B8'.out b9')
            have KI := jz (ints_same (OwnI.below_h O8'.out b9').ri o9'.ri)
            obtain ⟨q9', n9', rfl, _⟩ := o9'.ri
            clear o9' b9'
            go_wp2_with fail
            refine (KI.out).mono ?_; rintro e xa ⟨rfl, na, rfl⟩
            go_wp2_with fail
            refine (awake_any _).mono ?_; rintro e xb ⟨rfl, bb⟩
            have DF := jz (below_more HV.out.2 (below_more H5.out.1 (below_more (below_drewN B9'.out na) bb)))
            go_wp2_with fail
            go_ret
            exact ⟨rfl, DF.out⟩
          · have t1 : (E == 0) = false := beq_eq_false_iff_ne.2 hE
            have t2 : (E != 0) = true := by simpa using hE
            have hF : E = 2 := Classical.byContradiction fun q => h1 (FACT.out.2.1 hE q)
            have t3 : (E == 2) = true := beq_iff_eq.2 hF
            have t4 : (E != 2) = false := by simpa using hF
            have U1 := jz h1
            have U2 := jz h2
            clear h1 h2 hE hF
            go_wp2_with fail
            refine (CO5.out).mono ?_; rintro e x5 ⟨a5, rfl, h5, h6, h7, h8, h9⟩
            have H5 := jz (And.intro h5 (And.intro h6 (And.intro h7 (And.intro h8 h9))))
            clear h5 h6 h7 h8 h9 CO5 lP4 aE
            go_wp2_with fail
            refine (H5.out.2.1).mono ?_; rintro e x6 ⟨⟨y3, rfl, hy3⟩, b6⟩
            have B6' := jz b6
            have s3 : (y3 == 0) = false := beq_eq_false_iff_ne.2 fun q => U1.out (hy3.1 q)
            clear hy3 b6
            go_wp2_with fail
            refine (H5.out.2.2.1 _ B6'.out).mono ?_; rintro e x7 ⟨⟨y4, rfl, hy4⟩, b7⟩
            have B7' := jz (below_more B6'.out b7)
            have s4 : (y4 == 0) = true := beq_iff_eq.2 (hy4.2 U2.out)
            clear hy4 b7
            go_wp2_with fail
            refine (H5.out.2.2.2.1 _ B7'.out).mono ?_; rintro e x8 ⟨⟨v8', rfl, o8'⟩, b8'⟩
            have B8' := jz (below_more B7'.out b8')
            have O8' := jz o8'
            obtain ⟨q8', n8', rfl, _⟩ := o8'.ri
            clear o8' b8'
            go_wp2_with fail
            refine (H5.out.2.2.2.2 _ B8'.out).mono ?_; rintro e x9 ⟨⟨v9', rfl, o9'⟩, b9'⟩
            have B9' := jz (below_more B8'.out b9')
            have KI := jz (ints_same (OwnI.below_h O8'.out b9').ri o9'.ri)
            obtain ⟨q9', n9', rfl, _⟩ := o9'.ri
            clear o9' b9'
            go_wp2_with fail
            refine (KI.out).mono ?_; rintro e xa ⟨rfl, na, rfl⟩
            go_wp2_with fail
            refine (awake_any _).mono ?_; rintro e xb ⟨rfl, bb⟩
            have DF := jz (below_more HV.out.2 (below_more H5.out.1 (below_more (below_drewN B9'.out na) bb)))
            go_wp2_with fail
            go_ret
            exact ⟨rfl, DF.out⟩
set_option maxRecDepth 100000 in
theorem lifted (os : Os) (started : os.Started) (H : Type) (enc : TypeId × Value → H) :
 ReturnsInHanded {} Tryz.checked os 4 .any (Rows.heapCutSpec.pre6 enc Tryz.prog Tryz.f4 Rows.heapCutRow.domain false) (Rows.heapCutSpec.post enc Tryz.prog Tryz.f4 false true false false) := by
 refine returnsInHanded_of_change_sized (C := Tryz.checked) own started (by kernel_rfl) Tryz.func4
  (ChangeSpec.witness6 (enc := enc) (C := Tryz.checked) false ⟨#[], #[.agg #[.int .i64 0, .int .i64 0, .int .i64 0, .int .i64 0], .slice none 0 0, .slice none 0 0, .agg #[.int .i64 0, .int .i64 0, .int .i64 0, .int .i64 0, .slice none 0 0], .int .i64 0, .int .i64 0, .slice none 0 0], []⟩ 8 (by kernel_rfl) (by kernel_rfl) (by kernel_rfl) (by kernel_rfl)) ?_
 intro W base args ds gs before hval0 hW hcnd hsz _
 have hval : ∀ (j : Nat) t v, Tryz.f4.params[j]? = some t → args[j]? = some v → Value.okWide Tryz.prog W .any base t v := hval0
 have hW' := hW
 have hlt := hW.lt
 obtain ⟨p, q, hA0, hV, hpq, hfz, hnd⟩ := hW
 have hA : DataW.TrodAll enc Tryz.prog W 0 (fun _ => true) true Tryz.f4.params.toList args.toList ds p := hA0
 rw [Tryz.params4] at hA hval
 obtain ⟨v0, vs0, d0, ds0, p0, q0, hargs, rfl, hp, h0, r0⟩ := trodAll_cons hA
 obtain ⟨v1, vs1, d1, ds1, p1, q1, rfl, rfl, rfl, h1, r1⟩ := trodAll_cons r0
 obtain ⟨v2, vs2, d2, ds2, p2, q2, rfl, rfl, rfl, h2, r2⟩ := trodAll_cons r1
 obtain ⟨v3, vs3, d3, ds3, p3, q3, rfl, rfl, rfl, h3, r3⟩ := trodAll_cons r2
 obtain ⟨v4, vs4, d4, ds4, p4, q4, rfl, rfl, rfl, h4, r4⟩ := trodAll_cons r3
 obtain ⟨v5, vs5, d5, ds5, p5, q5, rfl, rfl, rfl, h5, r5⟩ := trodAll_cons r4
 obtain ⟨v6, vs6, d6, ds6, p6, q6, rfl, rfl, rfl, h6, r6⟩ := trodAll_cons r5
 obtain ⟨rfl, rfl, rfl⟩ := trodAll_nil r6
 obtain rfl : args = #[v0, v1, v2, v3, v4, v5, v6] := by cases args; simp_all
 obtain ⟨rfl, rfl⟩ := trodVars_none hV
 have hlt' : ∀ x ∈ before, x.block < W.heap.size := fun x hx => hlt x hx
 obtain ⟨c0, e0, g0, k0, rfl, w0⟩ := plan_in (hval 0 23 v0 rfl rfl) h0
 obtain ⟨l1, w1⟩ := ints_in Tryz.underlying24 Tryz.underlying3 (by kernel_rfl) (hval 1 24 v1 rfl rfl) (fun x hx => hlt' x (by rw [hpq, hp]; simp [hx])) h1
 obtain ⟨l2, w2, z2⟩ := hops_in_sized (hval 2 25 v2 rfl rfl) h2 (j := 2) rfl rfl hsz
 obtain ⟨c3, rfl, w3⟩ := hop_in (hval 3 37 v3 rfl rfl) h3
 obtain ⟨a4, rfl, rfl, rfl, w4⟩ := open_int Tryz.underlying3 (hval 4 3 v4 rfl rfl) h4
 obtain ⟨a5, rfl, rfl, rfl, w5⟩ := open_int Tryz.underlying3 (hval 5 3 v5 rfl rfl) h5
 obtain ⟨l6, w6⟩ := ints_in Tryz.underlying24 Tryz.underlying3 (by kernel_rfl) (hval 6 24 v6 rfl rfl) (fun x hx => hlt' x (by rw [hpq, hp]; simp [hx])) h6
 refine (walk c0 e0 g0 k0 l1 v1 l2 v2 c3 a4 a5 l6 v6 W w0 w1 w2 z2 w3 w4 w5 w6).mono fun e W' ⟨he, hb⟩ => ?_
 subst he
 exact ⟨_, rfl, law_post rfl (by kernel_rfl) hW' (by rw [Tryz.params4]; intro t ht; simp only [List.mem_cons, List.not_mem_nil, or_false] at ht; (repeat' (first | (rcases ht with rfl | ht) | subst ht)) <;> exact ⟨by kernel_rfl, of_decide_eq_true (by kernel_rfl)⟩) rfl hb⟩
theorem over : Rows.heapCutRow.holds Tryz.pinned (OpenSpec.ofChange Rows.heapCutSpec) :=
 OpenClaim.holds_of_wide 4 Tryz.f4 rfl rfl rfl rfl rfl rfl rfl ⟨rfl, rfl, rfl, rfl, rfl⟩ rfl rfl rfl rfl rfl (by kernel_rfl) Tryz.func4 (by kernel_rfl)
  (of_decide_eq_true (by kernel_rfl)) (by unfold Func.isWrapper; first | (rw [if_pos (by decide +kernel)]; kernel_rfl) | (rw [if_neg (by decide +kernel)]; exact ⟨rfl, rfl⟩))
  (fun os started H enc _ => lifted os started H enc)
theorem proved : Rows.HeapCutSaid := over
end Go.Proofs.YtjkefcidbcifpaaGreat.heapCut
