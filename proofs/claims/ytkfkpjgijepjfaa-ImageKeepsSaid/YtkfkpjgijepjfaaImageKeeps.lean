/-
  Whatever is done, the words are blocks; what is written is read, whatever is done in other blocks; a block is refused just where no free one is large enough. No conditions.
-/
import Derived.Test.YtkfkpjgijepjfaaZmc
import Derived.Test.YtkfkpjgijepjfaaZme
import Derived.Deep.DeepCutAuto
import Derived.Deep.CutBlock
import Derived.StillTailTactics
namespace Go.Proofs.Ytkfkpjgijepjfaa.imageKeeps
set_option maxRecDepth 100000
open Go.Proofs.Ytkfkpjgijepjfaa Go.ChangeShapes Go.WideShapes Go.ChangeAt Go.RowKit

set_option maxHeartbeats 1000000 in
theorem far (a0 : Int) (M f : Nat) (r : Option Addr) (dl : List Dx) (v : Value) (w : World) (hv : RA (doE w) w v dl) (h : 0 < hvF 0 dl ∨ 60 < M) :
    Calls Try.prog 4 #[.int .i64 a0, .slice r M f, v] w fun e w' => e = .returned (.bool true) ∧ Below w.heap.size w w' := by
  obtain ⟨R, hR⟩ : ∃ R, hvF 0 dl = R := ⟨_, rfl⟩
  have C := Lib.hid (heavy_is dl v w hv R hR)
  rw [hR] at h
  clear hR hv
  by_cases h1 : R > 0
  · clear h
    go_enter Try.func4, Try.ntmps4
    go_wp2_with fail
    refine (C.out).mono ?_; rintro e w1 ⟨rfl, b1⟩
    have D1 := Lib.hid b1
    clear b1
    go_wp2_with fail
    refine (awake_any _).mono ?_; rintro e w2 ⟨rfl, b2⟩
    have D2 := Lib.hid (below_more D1.out b2)
    clear b2
    go_wp2_with fail
    go_ret
    exact ⟨rfl, D2.out⟩
  · have i2 : (M : Int) > 60 := by omega
    clear h
    go_enter Try.func4, Try.ntmps4
    go_wp2_with fail
    refine (C.out).mono ?_; rintro e w1 ⟨rfl, b1⟩
    have D1 := Lib.hid b1
    clear b1
    go_wp2_with fail
    refine (awake_any _).mono ?_; rintro e w2 ⟨rfl, b2⟩
    have D2 := Lib.hid (below_more D1.out b2)
    clear b2
    go_wp2_with fail
    go_ret
    exact ⟨rfl, D2.out⟩

set_option maxHeartbeats 8000000 in
theorem near (a0 : Int) (cs : List Int) (q : Option Addr) (cq : Nat) (dl : List Dx) (v : Value) (w : World) (hc : RI w (.slice q cs.length cq) cs) (hv : RA (doE w) w v dl) (h1 : ¬ 0 < hvF 0 dl) (h2 : cs.length ≤ 60) :
    Calls Try.prog 4 #[.int .i64 a0, .slice q cs.length cq, v] w fun e w' => e = .returned (.bool true) ∧ Below w.heap.size w w' := by
  obtain ⟨u0, hu0, _⟩ := u64_nat a0
  obtain ⟨q0, hq0⟩ : ∃ q, u0 % 64 = q := ⟨_, rfl⟩
  have t0 : (u0 : Int).tmod 64 = (q0 : Int) := by rw [← hq0]; exact tmod_nat u0 64
  have s0 : IntKind.i64.wrap (q0 : Int) = (q0 : Int) := i64_nat _ (by omega)
  obtain ⟨L, hL⟩ : ∃ L, 1 + q0 = L := ⟨_, rfl⟩
  obtain ⟨W, hW⟩ : ∃ W, 8 * L = W := ⟨_, rfl⟩
  have p0 : IntKind.i64.wrap (1 + (q0 : Int)) = (L : Int) := by rw [show 1 + (q0 : Int) = (L : Int) by omega]; exact i64_nat _ (by omega)
  have p1 : IntKind.i64.wrap ((L : Int) * 8) = (W : Int) := by rw [show (L : Int) * 8 = (W : Int) by omega]; exact i64_nat _ (by omega)
  have hMw : Mw W := ⟨by omega, by omega, by omega⟩
  obtain ⟨f1, f2, f3⟩ := first_blk hMw
  have CH := Lib.hid (heavy_is dl v w hv _ rfl)
  obtain ⟨hz1, hz2⟩ := hvF_zero h1
  obtain ⟨R, hR⟩ : ∃ R, hvF 0 dl = R := ⟨_, rfl⟩
  rw [hR] at CH h1
  have e1 : ¬ R > 0 := h1
  have e2 : ¬ (cs.length : Int) > 60 := by omega
  have C1 := Lib.hid (fun w' => first_is W w')
  have HD := Lib.hid (And.intro hz1 (show dl.length ≤ 100 by rcases hz2 with rfl | h; simp; omega))
  have HW := Lib.hid (show 8 ≤ W ∧ W ≤ 512 by omega)
  have HF := Lib.hid (And.intro f1 (And.intro f2 f3))
  have HC := Lib.hid (fun (w' : World) (hb : Below w.heap.size w w') => ri_below hc hb)
  have HV := Lib.hid (fun (w' : World) (hb : Below w.heap.size w w') => ra_below hv hb)
  obtain ⟨pd, cd, rfl, _, _⟩ := ra_shape hv
  clear hc hv h1 h2 hz1 hz2 hq0 hL hW hMw f1 f2 f3 hR
  generalize cs.length = LC at *
  go_enter Try.func4, Try.ntmps4
  go_wp2_with fail
  refine (CH.out).mono ?_; rintro e w1 ⟨rfl, b1⟩
  have D1 := Lib.hid b1
  clear b1 CH
  go_wp2_with fail
  refine (C1.out _).mono ?_; rintro e w2 ⟨⟨v2, rfl, o2⟩, b2⟩
  have D2 := Lib.hid (below_more D1.out b2)
  obtain ⟨W3, hW3⟩ : ∃ W3, w2.alloc (.map #[] 0) = W3 := ⟨_, rfl⟩
  have HG : Hid (w.heap.size ≤ w2.heap.size) := Lib.hid D2.out.size
  have B3 : Below w2.heap.size w2 W3 := by rw [← hW3]; exact (Below.refl _ _).alloc (Nat.le_refl _) _
  have HS : Hid (KS W w2.heap.size w W3 v2 0) := Lib.hid ⟨below_more D2.out B3, _, _, _, ru_below o2.ru B3, HF.out.2.1, HF.out.2.2, HF.out.1, by rw [← hW3]; exact HM.made w2, Held.start⟩
  have hmm : (Instr.makeMap 48 none).run Try.prog w2 = .ok (.map (some w2.heap.size)) W3 := by rw [run_makeMap, hW3]
  clear b2 o2 C1 HF B3 hu0 t0 s0 p0 hW3
  go_wp2
  go_loopw [7, 57] (fun vw i wr => ∃ k : Nat, k ≤ dl.length ∧ i = .int .i64 k ∧ Hid (KS W w2.heap.size w wr vw k)) (fun _ i _ => dl.length - (intOf i).toNat)
  case atStart => exact ⟨0, Nat.zero_le _, rfl, HS⟩
  case round => as_aux_lemma =>
    obtain ⟨k, hk, rfl, H⟩ := hrel
    by_cases hlt : k < dl.length
    · obtain ⟨b, off, rfl, hb, hx⟩ := do_at (HV.out _ H.out.up) (by omega)
      obtain ⟨hld, hwf⟩ := hx k hlt
      have hbl := HD.out.1 (dl.getD k default) (by rw [List.getD_eq_getElem?_getD, List.getElem?_eq_getElem hlt]; exact List.getElem_mem hlt)
      generalize dl.getD k default = y at *
      obtain ⟨V, hV, hst, HX⟩ := do_boxed wr y hwf.one
      obtain ⟨wl, l1, S, g1, g2, g3, g4, g5, g6⟩ := H.out.ex
      have BV := HX.out.2
      have UP := Lib.hid (below_more H.out.up BV)
      have RW := Lib.hid (fun (w' : World) (hb : Below V.heap.size V w') => ru_below (ru_below g1 BV) hb)
      have HM0 := Lib.hid (fun (w' : World) (hb : Below V.heap.size V w') => (g5.below BV).below hb)
      have DV := Lib.hid (fun (w' : World) (hb : Below V.heap.size V w') => HX.out.1.below hb)
      have HH := Lib.hid g6
      have HB := Lib.hid g4
      have HOK := Lib.hid g3
      have HLN := Lib.hid g2
      have HWF := Lib.hid hwf
      have HBL := Lib.hid hbl
      obtain ⟨hblen, _⟩ := blkF_len g4
      have HL1 := Lib.hid hblen
      have CB := Lib.hid (blocks_is wl u7 (some l1) V (RW.out V (Below.refl _ _)) (by have := HW.out; omega) g3 g4)
      simp only [Option.isSome_some, Option.getD_some] at CB
      obtain ⟨pw, cw, rfl, _, _, _⟩ := id g1
      rw [g2] at RW CB ⊢
      have i0 : (0 : Int) ≤ (k : Int) := by omega
      have i1 : (k : Int) < (dl.length : Int) := by omega
      have i2 : ¬ (k : Int) < 0 := by omega
      have i3 : IntKind.i64.wrap ((k : Int) + 1) = ((k + 1 : Nat) : Int) := by rw [show (k : Int) + 1 = ((k + 1 : Nat) : Int) by omega]; exact i64_nat _ (by have := HD.out.2; omega)
      have i4 : ((W : Int) != (W : Int)) = false := by simp
      have HK := Lib.hid hlt
      clear hx hk hb hwf hV g1 g2 g3 g4 g5 g6 hbl hblen BV HX hlt H
      generalize dl.length = LD at *
      go_wp2_with fail
      refine (CB.out).mono ?_; rintro e w3 ⟨⟨v3, rfl, o3⟩, b3⟩
      have D3 := Lib.hid b3
      have O3 := Lib.hid (fun (w' : World) (hb : Below w3.heap.size w3 w') => ra_below o3.ra hb)
      obtain ⟨p3, c3, rfl, _, _⟩ := ra_shape o3.ra
      clear o3 b3 CB
      obtain ⟨wo, hwo⟩ : ∃ x : World, x = wr := ⟨_, rfl⟩
      subst hwo
      go_wp2
      go_loopw [13, 77] (fun y i wr => ∃ j : Nat, j ≤ l1.length ∧ i = .int .i64 j ∧ Hid (Uo l1 w3 wr y j)) (fun _ i _ => l1.length - (intOf i).toNat)
      case atStart => exact ⟨0, Nat.zero_le _, rfl, Lib.hid ⟨by rw [List.take_zero]; exact ownI_nil' _ _, Below.refl _ _⟩⟩
      case round => as_aux_lemma =>
        obtain ⟨j, hj, rfl, G⟩ := hrel
        by_cases hjt : j < l1.length
        · obtain ⟨b, off, rfl, hb, hx⟩ := blk_at (O3.out _ G.out.up) (by omega)
          obtain ⟨hld, _, _, _, hwf⟩ := hx j hjt
          have j0 : (0 : Int) ≤ (j : Int) := by omega
          have j1 : (j : Int) < (l1.length : Int) := by omega
          have j2 : ¬ (j : Int) < 0 := by omega
          have j3 : IntKind.i64.wrap ((j : Int) + 1) = ((j + 1 : Nat) : Int) := by rw [show (j : Int) + 1 = ((j + 1 : Nat) : Int) by omega]; exact i64_nat _ (by have := HL1.out; omega)
          have HJ := Lib.hid hjt
          have SKIP := Lib.hid (fun (hu : (l1.getD j default).u = false) w' (hb : Below wr.heap.size wr w') => G.out.skip hjt hu hb)
          have APP := Lib.hid (fun x (hu : (l1.getD j default).u = true) (hx : offB (l1.getD j default).a = x) W (hb : Below wr.heap.size wr W) => G.out.app hjt hu hx (by have := HL1.out; omega) hb)
          generalize l1.getD j default = z at *
          obtain ⟨a, s, u⟩ := z
          obtain ⟨X, hX, HX⟩ := blk_boxed wr ⟨a, s, u⟩
          have ld0 := HX.out.1.load
          have c2 : X.cell? ⟨wr.heap.size, 2, none⟩ = some (.bool u) := HX.out.1.c2
          clear hx hb hwf
          cases u
          · have HN := Lib.hid (SKIP.out rfl X HX.out.2)
            clear SKIP APP
            go_wp2
            go_roundw
            case rel => exact ⟨j + 1, by have := HJ.out; omega, by go_num, HN⟩
            case measure => have := HJ.out; simp [intOf]; omega
          · obtain ⟨x, hx⟩ : ∃ x, offB a = x := ⟨_, rfl⟩
            have C := Lib.hid (roff_is ⟨a, s, true⟩ x hx X)
            have AP := Lib.hid (fun W (hb : Below X.heap.size X W) => APP.out x rfl hx W (below_more HX.out.2 hb))
            clear SKIP APP hx
            go_wp2_with fail
            refine (C.out).mono ?_; rintro e w5 ⟨rfl, b5⟩
            obtain ⟨hlen, o1, hB, hmore⟩ := AP.out w5 b5
            have O1 := Lib.hid o1
            have HB1 := Lib.hid hB
            have HMO := Lib.hid hmore
            clear o1 hB hmore b5 AP C
            generalize usO (l1.take j) = UJ at *
            go_wp2_with (at_builtin; refine list_app_int (o := ⟨some 87, _, _, _, _, _⟩) rfl (.tmp 83) (.tmp 86) rfl w3.heap.size _ UJ rfl O1.out _ [x] rfl (ri_one _ _) hlen.out HB1.out ?_; intro v6 w6 hown hg _)
            have HN := Lib.hid (HMO.out _ _ hown hg)
            clear hown hg
            go_wp2
            go_roundw
            case rel => exact ⟨j + 1, by have := HJ.out; omega, by go_num, HN⟩
            case measure => have := HJ.out; simp [intOf]; omega
        · obtain rfl : j = l1.length := by omega
          have hO := G.out.own
          rw [List.take_length] at hO
          obtain ⟨pu, cu, rfl⟩ := hO.shape
          have HO := Lib.hid hO.ri
          have BW := Lib.hid (below_more D3.out G.out.up)
          obtain ⟨X, hX⟩ : ∃ X : World, X = wr := ⟨_, rfl⟩
          subst hX
          have RW := Lib.hid (fun (w' : World) (hb : Below X.heap.size X w') => RW.out w' (below_more BW.out hb))
          have HM0 := Lib.hid (fun (w' : World) (hb : Below X.heap.size X w') => HM0.out w' (below_more BW.out hb))
          have DV := Lib.hid (fun (w' : World) (hb : Below X.heap.size X w') => DV.out w' (below_more BW.out hb))
          have O3 := Lib.hid (fun (w' : World) (hb : Below X.heap.size X w') => O3.out w' (below_more G.out.up hb))
          have UP := Lib.hid (below_more UP.out BW.out)
          have HUM := Lib.hid (fun j (hj : j < (usO l1).length) => usO_mem hj)
          have HUN := Lib.hid (fun (h : (usO l1).length = 0) => usO_none h)
          have HUL : Hid ((usO l1).length ≤ 256) := Lib.hid (Nat.le_trans (usO_len l1) HL1.out)
          clear hO hj hjt G BW D3 D1 D2
          generalize usO l1 = UO at *
          obtain ⟨U, hU⟩ : ∃ U, UO.length = U := ⟨_, rfl⟩
          rw [hU] at HO HUM HUN HUL ⊢
          have dv := DV.out X (Below.refl _ _)
          obtain ⟨d, nn, kk, oo, vb, bl⟩ := y
          have d0 : X.cell? ⟨wo.heap.size, 0, none⟩ = some (.int .i64 d) := dv.c0
          have d2 : X.cell? ⟨wo.heap.size, 2, none⟩ = some (.int .i64 kk) := dv.c2
          clear dv hst hld
          go_upto_if 91 with fail
          go_cut [16] (fun v16 wx => X = wx ∧ ∃ x, v16 = .int .i64 x ∧ Hid (Off l1 x U))
          case first => as_aux_lemma =>
            by_cases hU0 : U = 0
            · subst hU0
              have HE := Lib.hid (show Off l1 8 0 from ⟨.inl ⟨rfl, rfl, HUN.out rfl⟩⟩)
              go_wp2
              go_meet
              exact ⟨rfl, _, rfl, HE⟩
            · obtain ⟨uk, huk, _⟩ := u64_nat kk
              obtain ⟨I, hI⟩ : ∃ I, uk % U = I := ⟨_, rfl⟩
              have hIU : I < U := by rw [← hI]; exact Nat.mod_lt _ (by omega)
              have m1 : (uk : Int).tmod (U : Int) = (I : Int) := by rw [← hI]; exact tmod_nat uk U
              have m2 : IntKind.u64.wrap (U : Int) = (U : Int) := by rw [IntKind.wrap_u64]; have := HUL.out; omega
              have m3 : IntKind.i64.wrap (I : Int) = (I : Int) := i64_nat _ (by have := HUL.out; omega)
              have m4 : (U : Int) > 0 := by omega
              have m5 : ¬ (U : Int) = 0 := by omega
              have m6 : ((U : Int) == 0) = false := beq_eq_false_iff_ne.2 m5
              have m7 : (I : Int) < (U : Int) := by omega
              have m8 : ¬ (I : Int) < 0 := by omega
              have m9 : (0 : Int) ≤ (I : Int) := by omega
              obtain ⟨bu, ou, rfl, _, hfr⟩ := ri_some HO.out (by omega)
              have cu1 := hfr I (by omega)
              obtain ⟨bb, hb1, hb2, hb3⟩ := HUM.out I hIU
              have HE := Lib.hid (show Off l1 (UO.getD I 0) U from ⟨.inr ⟨by omega, bb, hb1, hb2, hb3⟩⟩)
              clear hfr hb1 hb2 hb3 hI hIU hU0
              generalize UO.getD I 0 = x at *
              go_wp2
              go_meet
              exact ⟨rfl, _, rfl, HE⟩
          case rest => as_aux_lemma =>
            obtain ⟨rfl, x, rfl, HX⟩ := hcut
            have hxw := HX.out.wf HB.out
            have XW : Hid ((Lit.int .i64 x).wf = true) := Lib.hid (i64_of (by omega) (by omega))
            have XR := Lib.hid hxw
            obtain ⟨pb, cb, hvb, _, _⟩ := ra_shape HWF.out.rv
            simp only at hvb
            subst hvb
            have VB := Lib.hid (fun (w' : World) (hb : Below X.heap.size X w') => ra_below HWF.out.rv (below_more UP.out hb))
            have DD : d = 0 ∨ d = 1 ∨ d = 2 ∨ ((d == 0) = false ∧ (d == 1) = false ∧ (d == 2) = false) := by
              simp only [beq_eq_false_iff_ne]; omega
            clear d2 hxw HO HUM HUN
            go_upto_block 4 with fail
            go_cut [7, 17, 18, 19, 20, 21, 22, 23, 24, 25, 26, 27, 28, 29, 30] (fun v7 _ _ _ _ _ _ _ _ _ _ _ _ _ _ wx => Hid (KS W w2.heap.size w wx v7 (k + 1)))
            case first => as_aux_lemma =>
              rcases DD with rfl | rfl | rfl | ⟨t0, t1, t2⟩
              · as_aux_lemma =>
                have CN := Lib.hid (fun w' => rneed_is nn w')
                have HLW := HLN.out
                have CA := Lib.hid (al_is wl nn cs (.slice pw W cw) (.slice q LC cq) X (RW.out X (Below.refl _ _)) (by have := HW.out; omega) HOK.out (HC.out X UP.out))
                have n1 : X.cell? ⟨wo.heap.size, 1, none⟩ = some (.int .i64 nn) := (DV.out X (Below.refl _ _)).c1
                have DN := Lib.hid (fun (w' : World) (hb : Below X.heap.size X w') => (show w'.cell? ⟨wo.heap.size, 1, none⟩ = some (.int .i64 nn) from (DV.out w' hb).c1))
                have SAME := Lib.hid (fun (w' : World) (hb : Below X.heap.size X w') => (show KS W w2.heap.size w w' (.slice pw W cw) (k + 1) from ⟨below_more UP.out hb, wl, l1, S, RW.out w' hb, HLN.out, HOK.out, HB.out, (HM0.out w' hb).mono (Nat.le_succ k), HH.out⟩))
                rcases al_cases HB.out HOK.out HH.out nn cs with ⟨hN, hA⟩ | ⟨N, hN, hN2, hmo, hA⟩ | ⟨N, E, z, t, dd, hN, hN2, hmo, hA, hE, hE2, hE3, hz, ht, ht2, l', hl1, hl2, hl3, hl4, hl5⟩
                · as_aux_lemma =>
                  rw [hA] at CA
                  rw [hN] at CN
                  simp only at CA
                  obtain ⟨y0, hy0, y1, y2⟩ : ∃ y : Int, (0 : Int) = y ∧ decide (y > 0) = false ∧ (y == 0) = true := ⟨_, rfl, rfl, rfl⟩
                  rw [hy0] at CN
                  have CNq : Hid (∀ (w' : World) n, Calls Try.prog 27 #[.int .i64 nn] (w'.drewN n) fun e w'' => e = .returned (.int .i64 y0) ∧ ∃ k, w'' = (w'.drewN n).drewN k) := Lib.hid fun w' n => (CN.out _).mono fun _ _ h => ⟨h.1, 0, h.2.symm⟩
                  clear hN hA hy0 CN HLW
                  go_wp2_with fail
                  refine (CA.out).mono ?_; rintro e w5 ⟨⟨v5, rfl, o5⟩, b5⟩
                  have n2 := DN.out w5 b5
                  have HE := Lib.hid (fun n => SAME.out (w5.drewN n) (below_drewN b5 n))
                  clear o5 b5 CA n1 d0
                  go_wp2_with fail
                  go_quiet (refine Calls.quiet_of (CNq.out _ _))
                  have HE := Lib.hid (HE.out nq)
                  go_wp2
                  go_meet
                  exact HE
                · as_aux_lemma =>
                  rw [hA] at CA
                  rw [hN] at CN
                  simp only at CA
                  have y1 : decide ((N : Int) > 0) = true := decide_eq_true (by omega)
                  have y0 : decide (0 < N) = true := decide_eq_true (by omega)
                  have y00 : 0 < N := by omega
                  have y2 : ((N : Int) == 0) = false := beq_eq_false_iff_ne.2 (by omega)
                  obtain ⟨m, hm⟩ : ∃ m, moL l1 = m := ⟨_, rfl⟩
                  have y3 : decide (m ≥ (N : Int)) = false := decide_eq_false (by omega)
                  have CM := Lib.hid (fun (w' : World) (hb : Below X.heap.size X w') => rmost_is l1 _ m w' (O3.out w' hb) hm)
                  clear hN hA hmo hm hN2 HLW
                  go_wp2_with fail
                  refine (CA.out).mono ?_; rintro e w5 ⟨⟨v5, rfl, o5⟩, b5⟩
                  have n2 : ∀ w', Below w5.heap.size w5 w' → w'.cell? ⟨wo.heap.size, 1, none⟩ = some (.int .i64 nn) := fun w' hb => DN.out w' (below_more b5 hb)
                  have CM5 := Lib.hid (fun (w' : World) (hb : Below w5.heap.size w5 w') => CM.out w' (below_more b5 hb))
                  have SAME5 := Lib.hid (fun (w' : World) (hb : Below w5.heap.size w5 w') => SAME.out w' (below_more b5 hb))
                  clear o5 b5 CA n1 d0 CM SAME
                  go_wp2_with fail
                  go_region_held3 (fun w' => Below w5.heap.size w5 w')
                    (first | assumption | exact (Below.refl _ _).drew | exact below_more ‹Below w5.heap.size w5 _› hbq)
                    (first
                      | (go_at_call 27; refine (CN.out _).mono ?_; rintro e wz ⟨rfl, rfl⟩)
                      | (go_at_call 28; refine (CM5.out _ (by assumption)).mono ?_; rintro e wq ⟨rfl, hbq⟩))
                  have HB2 : Hid (Below w5.heap.size w5 wq) := Lib.hid (by assumption)
                  have n3 := n2 wq HB2.out
                  have HE := Lib.hid (SAME5.out wq HB2.out)
                  clear n2 SAME5 CM5
                  go_wp2_with fail
                  refine (CN.out _).mono ?_; rintro e wz ⟨rfl, rfl⟩
                  go_wp2
                  go_meet
                  exact HE
                · as_aux_lemma =>
                  rw [hA] at CA
                  rw [hN] at CN
                  simp only at CA
                  have y1 : decide ((N : Int) > 0) = true := decide_eq_true (by omega)
                  have y0 : decide (0 < N) = true := decide_eq_true (by omega)
                  have y00 : 0 < N := by omega
                  have y2 : ((N : Int) == 0) = false := beq_eq_false_iff_ne.2 (by omega)
                  obtain ⟨m, hm⟩ : ∃ m, moL l1 = m := ⟨_, rfl⟩
                  have y3 : decide (m ≥ (N : Int)) = true := decide_eq_true (by omega)
                  have CM := Lib.hid (fun (w' : World) (hb : Below X.heap.size X w') => rmost_is l1 _ m w' (O3.out w' hb) hm)
                  have CP := Lib.hid (fun u (w' : World) (hb : Below X.heap.size X w') (hu : RA edE w' u E) => rapply_is wl E (.slice pw W cw) u w' (RW.out w' hb) hu (by have := HW.out; omega) (by have := HW.out; omega) (by omega))
                  have CB2 := Lib.hid (fun v (w' : World) (h : RU w' v (appF wl E)) => blocks_is (appF wl E) v (some l') w' h (by rw [hE2]; have := HW.out; omega) hE3 hl1)
                  simp only [Option.isSome_some, Option.getD_some] at CB2
                  have CI2 := Lib.hid (fun v (w' : World) (h : RA blkE w' v l') => ris_is ((8 * (z + 1) : Nat) : Int) l' v (some dd) w' h hl4)
                  simp only [oi] at CI2
                  have LD2 := Lib.hid (fun v (w' : World) (h : RA blkE w' v l') => blk_ld h hl2)
                  rw [hl3] at LD2
                  simp only at LD2
                  obtain ⟨t1, ht1⟩ : ∃ t1, t - 1 = t1 := ⟨_, rfl⟩
                  obtain ⟨Z, hZ⟩ : ∃ Z, 8 * (t - 1) = Z := ⟨_, rfl⟩
                  have k1 : IntKind.i64.wrap ((t : Int) - 1) = (t1 : Int) := by rw [show (t : Int) - 1 = (t1 : Int) by omega]; exact i64_nat _ (by omega)
                  have k2 : IntKind.i64.wrap ((t1 : Int) * 8) = (Z : Int) := by rw [show (t1 : Int) * 8 = (Z : Int) by omega]; exact i64_nat _ (by omega)
                  have hmk := run_make_row' (P := Try.prog) 24 5 (.int .u8 0) 1 Try.underlying24 info_u8 rfl .i64 .i64 Z (by omega) (by omega)
                  have HFIN := Lib.hid (And.intro hE3 (And.intro (hE2.trans HLN.out) (And.intro hl1 hl5)))
                  rw [hZ] at HFIN
                  have HZ := Lib.hid (show Z ≤ 5000 by omega)
                  obtain ⟨x2, hx2⟩ : ∃ x2, ((8 * (z + 1) : Nat) : Int) = x2 := ⟨_, rfl⟩
                  have XW2 : Hid ((Lit.int .i64 x2).wf = true) := Lib.hid (by rw [← hx2]; exact i64_of (by omega) (by omega))
                  rw [hx2] at CA CI2 HFIN
                  have i5 : ¬ (dd : Int) < 0 := by omega
                  have i6 : (dd : Int) < (l'.length : Int) := by omega
                  have i7 : (0 : Int) ≤ (dd : Int) := by omega
                  have HKK := Lib.hid (show k ≤ 100 by have := HK.out; have := HD.out.2; omega)
                  clear hN hA hmo hm hN2 HLW hE hE2 hE3 hl1 hl2 hl3 hl4 hl5 ht ht2 hz ht1 hZ hx2
                  generalize l'.length = L2 at *
                  go_wp2_with fail
                  refine (CA.out).mono ?_; rintro e w5 ⟨⟨v5, rfl, o5⟩, b5⟩
                  have B5 := Lib.hid b5
                  have O5 := Lib.hid (fun (w' : World) (hb : Below w5.heap.size w5 w') => ra_below o5.ra hb)
                  have n2 : ∀ w', Below w5.heap.size w5 w' → w'.cell? ⟨wo.heap.size, 1, none⟩ = some (.int .i64 nn) := fun w' hb => DN.out w' (below_more b5 hb)
                  have CM5 := Lib.hid (fun (w' : World) (hb : Below w5.heap.size w5 w') => CM.out w' (below_more b5 hb))
                  clear o5 b5 CA n1 d0 CM SAME
                  go_wp2_with fail
                  go_region_held3 (fun w' => Below w5.heap.size w5 w')
                    (first | assumption | exact (Below.refl _ _).drew | exact below_more ‹Below w5.heap.size w5 _› hbq)
                    (first
                      | (go_at_call 27; refine (CN.out _).mono ?_; rintro e wz ⟨rfl, rfl⟩)
                      | (go_at_call 28; refine (CM5.out _ (by assumption)).mono ?_; rintro e wq ⟨rfl, hbq⟩))
                  have HB2 : Hid (Below w5.heap.size w5 wq) := Lib.hid (by assumption)
                  have B6 := Lib.hid (below_more B5.out HB2.out)
                  have O6 := Lib.hid (O5.out wq HB2.out)
                  clear n2 CM5 CN O5
                  go_wp2_with fail
                  refine (CP.out _ _ B6.out O6.out).mono ?_; rintro e w7 ⟨⟨v7, rfl, o7⟩, b7⟩
                  have B7 := Lib.hid (below_more B6.out b7)
                  have O7 := Lib.hid (fun (w' : World) (hb : Below w7.heap.size w7 w') => ru_below o7.ru hb)
                  have O7' := Lib.hid o7.ru
                  clear o7 b7 CP O6 B6 B5 HB2
                  go_wp2_with fail
                  refine (CB2.out _ _ O7'.out).mono ?_; rintro e w8 ⟨⟨v8, rfl, o8⟩, b8⟩
                  have B78 := Lib.hid b8
                  have O8 := Lib.hid o8.ra
                  clear o8 b8 CB2 O7'
                  go_wp2_with fail
                  refine (CI2.out _ _ O8.out).mono ?_; rintro e w9 ⟨rfl, b9⟩
                  have B79 := Lib.hid (below_more B78.out b9)
                  obtain ⟨b8, off8, c8, rfl, _, _, cs9⟩ := LD2.out _ _ (ra_below O8.out b9)
                  clear b9 CI2 O8 B78 LD2
                  obtain ⟨V, hV⟩ : ∃ V, w9.alloc (.cells (madeCells #[.int .u8 0] Z) 5) = V := ⟨_, rfl⟩
                  have B9V : Below w9.heap.size w9 V := by rw [← hV]; exact bal (Below.refl _ _)
                  have hs : (strConv (.slice (some ⟨w9.heap.size, 0, none⟩) Z Z)).run Try.prog V = .ok (.string (strOfNums (List.replicate Z 0))) V := run_strConv (by
                    have := own_made_a byE w9 Z (by have := HZ.out; unfold maxLen; omega) (x := 0) ⟨by decide, by decide⟩ rfl
                    have e : w9.alloc (.cells (madeCells byE.z.cells (Z * byE.size)) byE.e) = V := by rw [← hV]; show _ = _; rw [show Z * byE.size = Z from Nat.mul_one Z]; rfl
                    rw [e] at this
                    have := this.ra
                    exact this)
                  have B7V := Lib.hid (below_more B79.out B9V)
                  have BXV := Lib.hid (below_more B7.out B7V.out)
                  have UPV := Lib.hid (below_more UP.out BXV.out)
                  obtain ⟨D, ho, hd1, hd2⟩ := (HM0.out V BXV.out).ex
                  have HOD := Lib.hid (And.intro ho (And.intro hd1 hd2))
                  have RV := Lib.hid (O7.out V B7V.out)
                  clear ho hd1 hd2 B9V B79 B7 O7
                  go_wp2_with (first | (at_mapUpdate; refine wpList_mapUpdate_own _ rfl _ _ _ 48 rfl 3 58 key_law Try.underlying48 bsR w2.heap.size k D rfl HOD.out.1 (by have := HKK.out; unfold maxLen; omega) _ _ _ rfl rfl (Maps.keyOf_int_mk Try.underlying3 XW2.out) _ [] (bsR_mk _) ?_; intro w10 hown hgrow) | go_in)
                  have hm10 := HM.put HOD.out.1 HOD.out.2.1 HOD.out.2.2 hown
                  have HE : Hid (KS W w2.heap.size w w10 v7 (k + 1)) := Lib.hid ⟨Below.grown UPV.out hgrow UPV.out.size (fun q hq => by cases hq; exact HG.out), _, l', _, ru_same RV.out (cells_stay hgrow (fun p hp => (HM0.out V BXV.out).no_cell hp) (fun p hp => hm10.no_cell hp)), HFIN.out.2.1, HFIN.out.1, HFIN.out.2.2.1, hm10, HFIN.out.2.2.2⟩
                  clear hown hgrow hm10
                  go_wp2
                  go_meet
                  exact HE
              · as_aux_lemma =>
                obtain ⟨E, r, hF, hr, hE, hE2, hE3, l', hl1, hl2⟩ := HX.out.free HB.out HOK.out HH.out
                have CF := Lib.hid (fr_is wl x (.slice pw W cw) X (RW.out X (Below.refl _ _)) (by have := HW.out; have := HLN.out; omega) HOK.out)
                rw [hF] at CF
                simp only at CF
                have CP := Lib.hid (fun u (w' : World) (hb : Below X.heap.size X w') (hu : RA edE w' u E) => rapply_is wl E (.slice pw W cw) u w' (RW.out w' hb) hu (by have := HW.out; have := HLN.out; omega) (by have := HW.out; have := HLN.out; omega) hE)
                by_cases hU : 0 < U
                · rw [decide_eq_true hU] at hr
                  have y1 : (U : Int) > 0 := by omega
                  have y3 : 0 < U := hU
                  obtain rfl : r = 0 := by simpa using hr
                  have HFIN := Lib.hid (And.intro hE3 (And.intro (hE2.trans HLN.out) (And.intro hl1 hl2)))
                  clear hF hr hE hE2 hE3 hl1 hl2 hU
                  go_wp2_with fail
                  refine (CF.out).mono ?_; rintro e w5 ⟨⟨v5, rfl, o5⟩, b5⟩
                  have B5 := Lib.hid b5
                  have O5 := Lib.hid o5.ra
                  clear o5 b5 CF d0
                  go_wp2_with fail
                  refine (CP.out _ _ B5.out O5.out).mono ?_; rintro e w6 ⟨⟨v6, rfl, o6⟩, b6⟩
                  have B6 := Lib.hid (below_more B5.out b6)
                  have O6 := Lib.hid o6.ru
                  clear o6 b6 CP O5 B5
                  obtain ⟨D, ho, hd1, hd2⟩ := (HM0.out w6 B6.out).ex
                  have HOD := Lib.hid (And.intro ho (And.intro hd1 hd2))
                  have HM6 := Lib.hid (HM0.out w6 B6.out)
                  have UP6 := Lib.hid (below_more UP.out B6.out)
                  clear ho hd1 hd2
                  go_wp2_with (first | (at_delete; refine wpList_delete_own _ rfl _ _ 48 3 rfl 58 key_law Try.underlying48 bsR w2.heap.size k D rfl HOD.out.1 _ _ rfl (Maps.keyOf_int_mk Try.underlying3 XW.out) ?_; intro w7 hown hturn) | go_in)
                  have hm7 := HM.del HOD.out.2.1 HOD.out.2.2 hown
                  have HE : Hid (KS W w2.heap.size w w7 v6 (k + 1)) := Lib.hid ⟨Below.grown UP6.out hturn.grown UP6.out.size (fun q hq => by cases hq; exact HG.out), _, l', _, ru_same O6.out (cells_stay hturn.grown (fun p hp => HM6.out.no_cell hp) (fun p hp => hm7.no_cell hp)), HFIN.out.2.1, HFIN.out.1, HFIN.out.2.2.1, hm7.mono (Nat.le_succ k), HFIN.out.2.2.2⟩
                  clear hown hturn hm7
                  go_wp2
                  go_meet
                  exact HE
                · rw [decide_eq_false hU] at hr
                  have y1 : ¬ (U : Int) > 0 := by omega
                  have y3 : ¬ 0 < U := hU
                  have HFIN := Lib.hid (And.intro hE3 (And.intro (hE2.trans HLN.out) (And.intro hl1 hl2)))
                  clear hF hE hE2 hE3 hl1 hl2 hU
                  go_wp2_with fail
                  refine (CF.out).mono ?_; rintro e w5 ⟨⟨v5, rfl, o5⟩, b5⟩
                  have B5 := Lib.hid b5
                  have O5 := Lib.hid o5.ra
                  clear o5 b5 CF d0
                  go_wp2_with fail
                  refine (CP.out _ _ B5.out O5.out).mono ?_; rintro e w6 ⟨⟨v6, rfl, o6⟩, b6⟩
                  have B6 := Lib.hid (below_more B5.out b6)
                  have O6 := Lib.hid o6.ru
                  clear o6 b6 CP O5 B5
                  obtain ⟨D, ho, hd1, hd2⟩ := (HM0.out w6 B6.out).ex
                  have HOD := Lib.hid (And.intro ho (And.intro hd1 hd2))
                  have HM6 := Lib.hid (HM0.out w6 B6.out)
                  have UP6 := Lib.hid (below_more UP.out B6.out)
                  clear ho hd1 hd2
                  go_wp2_with (first | (at_delete; refine wpList_delete_own _ rfl _ _ 48 3 rfl 58 key_law Try.underlying48 bsR w2.heap.size k D rfl HOD.out.1 _ _ rfl (Maps.keyOf_int_mk Try.underlying3 XW.out) ?_; intro w7 hown hturn) | go_in)
                  have hm7 := HM.del HOD.out.2.1 HOD.out.2.2 hown
                  have HE : Hid (KS W w2.heap.size w w7 v6 (k + 1)) := Lib.hid ⟨Below.grown UP6.out hturn.grown UP6.out.size (fun q hq => by cases hq; exact HG.out), _, l', _, ru_same O6.out (cells_stay hturn.grown (fun p hp => HM6.out.no_cell hp) (fun p hp => hm7.no_cell hp)), HFIN.out.2.1, HFIN.out.1, HFIN.out.2.2.1, hm7.mono (Nat.le_succ k), HFIN.out.2.2.2⟩
                  clear hown hturn hm7
                  go_wp2
                  go_meet
                  exact HE
              · as_aux_lemma =>
                obtain ⟨A, hA⟩ : ∃ A, (S x).getD [] = A := ⟨_, rfl⟩
                have hlk := (HM0.out X (Below.refl _ _)).look XW.out
                rw [hA] at hlk
                obtain ⟨M, hM⟩ : ∃ M, A.length = M := ⟨_, rfl⟩
                have hMs : (strOfNums A).size = M := by rw [strOfNums_size, hM]
                have hM4 : M ≤ 4096 := by rw [← hM, ← hA]; exact HH.out.most HB.out
                obtain ⟨BL, hBL⟩ : ∃ BL, bl.length = BL := ⟨_, rfl⟩
                have hBL5 : BL ≤ 500 := by rw [← hBL]; exact HBL.out
                obtain ⟨uo, huo, _⟩ := u64_nat oo
                obtain ⟨f, hf⟩ : ∃ f, uo % (M + 2) = f := ⟨_, rfl⟩
                have hfM : f < M + 2 := by rw [← hf]; exact Nat.mod_lt _ (by omega)
                obtain ⟨M2, hM2⟩ : ∃ M2, M + 2 = M2 := ⟨_, rfl⟩
                have m0 : IntKind.i64.wrap ((M : Int) + 2) = (M2 : Int) := by rw [show (M : Int) + 2 = (M2 : Int) by omega]; exact i64_nat _ (by omega)
                have m1 : (uo : Int).tmod (M2 : Int) = (f : Int) := by rw [← hf, ← hM2]; exact tmod_nat uo (M + 2)
                have m2 : IntKind.u64.wrap (M2 : Int) = (M2 : Int) := by rw [IntKind.wrap_u64]; omega
                have m3 : IntKind.i64.wrap (f : Int) = (f : Int) := i64_nat _ (by omega)
                have m5 : ¬ (M2 : Int) = 0 := by omega
                have m6 : ((M2 : Int) == 0) = false := beq_eq_false_iff_ne.2 m5
                obtain ⟨xf, hxf⟩ : ∃ xf, x + (f : Int) = xf := ⟨_, rfl⟩
                have m7 : IntKind.i64.wrap (x + (f : Int)) = xf := by rw [hxf]; exact IntWalk.i64_in _ (by have := XR.out; omega)
                obtain ⟨fB, hfB⟩ : ∃ fB, f + BL = fB := ⟨_, rfl⟩
                have m8 : IntKind.i64.wrap ((f : Int) + (BL : Int)) = (fB : Int) := by rw [show (f : Int) + (BL : Int) = (fB : Int) by omega]; exact i64_nat _ (by omega)
                have CW := Lib.hid (wr_is wl bl xf (.slice pw W cw) (.slice pb bl.length cb) X (RW.out X (Below.refl _ _)) (VB.out X (Below.refl _ _)) (by have := HW.out; have := HLN.out; omega) (by omega) HOK.out (by have := XR.out; omega))
                have CHO := Lib.hid (fun (w' : World) (hb : Below X.heap.size X w') => holds_is wl xf bl.length (.slice pw W cw) w' (RW.out w' hb) (by have := HW.out; have := HLN.out; omega) HOK.out)
                have HWR := Lib.hid (fun (h : fitsW U f M BL = true) => HX.out.write (f := f) (bl := bl) HB.out HOK.out HH.out (by rw [hA, hM, hBL]; exact h))
                rw [hxf, hA] at HWR
                have e4 : X.cell? ⟨wo.heap.size, 3, none⟩ = some (.int .i64 oo) := (DV.out X (Below.refl _ _)).c3
                have e5 : X.cell? ⟨wo.heap.size, 4, none⟩ = some (.slice pb BL cb) := by rw [← hBL]; exact (DV.out X (Below.refl _ _)).c4
                have DB := Lib.hid (fun (w' : World) (hb : Below X.heap.size X w') => (show w'.cell? ⟨wo.heap.size, 4, none⟩ = some (.slice pb BL cb) from by rw [← hBL]; exact (DV.out w' hb).c4))
                rw [hBL] at CW CHO HWR
                obtain ⟨r0, hr0⟩ : ∃ r0, refF wl xf BL = r0 := ⟨_, rfl⟩
                rw [hr0] at CW CHO HWR
                have HSZ := Lib.hid (And.intro hM4 (And.intro hBL5 (And.intro hfM (And.intro hfB (And.intro hM hBL)))))
                have SAME := Lib.hid (fun (w' : World) (hb : Below X.heap.size X w') => (show KS W w2.heap.size w w' (.slice pw W cw) (k + 1) from ⟨below_more UP.out hb, wl, l1, S, RW.out w' hb, HLN.out, HOK.out, HB.out, (HM0.out w' hb).mono (Nat.le_succ k), HH.out⟩))
                have hAS := hA
                clear hA hM hM4 hBL5 hfM hM2 hf hxf hr0
                obtain ⟨SA, hSA⟩ : ∃ SA, strOfNums A = SA := ⟨_, rfl⟩
                rw [hSA] at hlk hMs
                go_wp2_with fail
                refine (CW.out).mono ?_; rintro e w5 ⟨⟨v5, E, rfl, o5, t5⟩, b5⟩
                have B5 := Lib.hid b5
                have O5 := Lib.hid (And.intro o5.ra t5)
                have e6 := DB.out w5 b5
                obtain ⟨F, hF⟩ : ∃ F, fitsW U f M BL = F := ⟨_, rfl⟩
                rw [hF] at HWR
                clear o5 b5 CW d0 e4 e5 hlk t5
                go_upto_region 45 with fail
                go_cut [30] (fun v30 wx => v30 = .bool F ∧ w5 = wx)
                case first => as_aux_lemma =>
                  simp only [fitsW] at hF
                  by_cases c1 : 0 < U
                  · have d1 : (U : Int) > 0 := by omega
                    rw [decide_eq_true c1, Bool.true_and] at hF
                    by_cases c2 : f + BL ≤ M
                    · have d2 : (fB : Int) ≤ (M : Int) := by have := HSZ.out; omega
                      have d3 : fB ≤ M := by omega
                      rw [decide_eq_true c2, Bool.true_and] at hF
                      by_cases c3 : BL ≤ 448
                      · have d4 : (BL : Int) ≤ 448 := by omega
                        rw [decide_eq_true c3] at hF
                        subst hF
                        go_wp2
                        go_meet
                        exact ⟨rfl, rfl⟩
                      · have d4 : ¬ (BL : Int) ≤ 448 := by omega
                        have d5 : decide ((BL : Int) ≤ 448) = false := decide_eq_false d4
                        have d6 : decide (BL ≤ 448) = false := decide_eq_false c3
                        rw [decide_eq_false c3] at hF
                        subst hF
                        go_wp2
                        go_meet
                        exact ⟨rfl, rfl⟩
                    · have d2 : ¬ (fB : Int) ≤ (M : Int) := by have := HSZ.out; omega
                      have d3 : ¬ fB ≤ M := by omega
                      have d5 : decide ((fB : Int) ≤ (M : Int)) = false := decide_eq_false d2
                      have d6 : decide (fB ≤ M) = false := decide_eq_false d3
                      rw [decide_eq_false c2, Bool.false_and] at hF
                      subst hF
                      go_wp2
                      go_meet
                      exact ⟨rfl, rfl⟩
                  · have d1 : ¬ (U : Int) > 0 := by omega
                    have d5 : decide ((U : Int) > 0) = false := decide_eq_false d1
                    have d6 : decide (0 < U) = false := decide_eq_false c1
                    rw [d6, Bool.false_and, Bool.false_and] at hF
                    subst hF
                    go_wp2
                    go_meet
                    exact ⟨rfl, rfl⟩
                case rest => as_aux_lemma =>
                  obtain ⟨rfl, rfl⟩ := hcut
                  cases F
                  · as_aux_lemma =>
                    have HE := Lib.hid (SAME.out w5 B5.out)
                    have e7 := DB.out w5 B5.out
                    by_cases c1 : r0 = 0
                    · subst c1
                      by_cases c2 : (BL : Int) > 0
                      · have c4 : 0 < BL := by omega
                        have SAME5 := Lib.hid (fun (w' : World) (hb : Below w5.heap.size w5 w') => SAME.out w' (below_more B5.out hb))
                        go_wp2_with fail
                        refine (CHO.out _ B5.out).mono ?_; rintro e w6 ⟨rfl, b6⟩
                        have HE := Lib.hid (SAME5.out w6 b6)
                        clear b6
                        go_wp2
                        go_meet
                        exact HE
                      · have c3 : decide ((BL : Int) > 0) = false := decide_eq_false c2
                        have c4 : ¬ 0 < BL := by omega
                        go_wp2
                        go_meet
                        exact HE
                    · have c2 : (r0 == 0) = false := beq_eq_false_iff_ne.2 c1
                      have c3 : (r0 != 0) = true := bne_iff_ne.2 c1
                      clear c1
                      go_wp2
                      go_meet
                      exact HE
                  · as_aux_lemma =>
                    obtain ⟨rfl, hwr⟩ := HWR.out rfl
                    obtain ⟨q1, q2, q3, q4, q5⟩ := hwr E O5.out.2
                    have CP := Lib.hid (fun u (w' : World) (hb : Below X.heap.size X w') (hu : RA edE w' u E) => rapply_is wl E (.slice pw W cw) u w' (RW.out w' hb) hu (by have := HW.out; have := HLN.out; omega) (by have := HW.out; have := HLN.out; omega) q3)
                    have HFIN := Lib.hid (And.intro q2 (And.intro (q1.trans HLN.out) (And.intro q4 q5)))
                    clear q1 q2 q3 q4 q5 hwr HWR CHO
                    go_wp2_with fail
                    refine (CP.out _ _ B5.out O5.out.1).mono ?_; rintro e w6 ⟨⟨v6, rfl, o6⟩, b6⟩
                    have B6 := Lib.hid (below_more B5.out b6)
                    have O6 := Lib.hid o6.ru
                    clear o6 b6 CP e6
                    have B6d := Lib.hid (show Below X.heap.size X w6.drew from B6.out.drew)
                    obtain ⟨z1, z2, z3, z4, z5, z6⟩ := HSZ.out
                    have hfit : fB ≤ M := by
                      simp only [fitsW, Bool.and_eq_true, decide_eq_true_eq] at hF
                      omega
                    have hlk : (Instr.lookup 48 (.map (some w2.heap.size)) (.int .i64 x) false).run Try.prog w6.drew = .ok (.agg #[.string SA]) w6.drew := by
                      have h1 := (HM0.out w6.drew B6d.out).look XW.out
                      rw [hAS, hSA] at h1
                      exact h1
                    obtain ⟨P1, hP1⟩ : ∃ P, strOfNums (A.take f) = P := ⟨_, rfl⟩
                    obtain ⟨P2, hP2⟩ : ∃ P, strOfNums bl = P := ⟨_, rfl⟩
                    obtain ⟨P3, hP3⟩ : ∃ P, strOfNums (A.drop fB) = P := ⟨_, rfl⟩
                    obtain ⟨P12, hP12⟩ : ∃ P, strOfNums (A.take f ++ bl) = P := ⟨_, rfl⟩
                    obtain ⟨P, hP⟩ : ∃ P, strOfNums (put8 A bl f) = P := ⟨_, rfl⟩
                    have hs1 : (Instr.slice 9 (.string SA) none (some (.int .i64 (f : Int))) none).run Try.prog w6.drew = .ok (.string P1) w6.drew := by
                      rw [run_slice_string_h _ 9 SA Try.underlying9 .i64 f (by omega) (by rw [hMs]; omega), Int.toNat_natCast, ← hSA, str_take, hP1]
                    have hs3 : (Instr.slice 9 (.string SA) (some (.int .i64 (fB : Int))) none none).run Try.prog w6.drew = .ok (.string P3) w6.drew := by
                      rw [run_slice_string_l _ 9 SA Try.underlying9 .i64 fB (by omega) (by rw [hMs]; omega), Int.toNat_natCast, ← hSA, str_drop, hP3]
                    have hcv : (strConv (.slice pb BL cb)).run Try.prog w6.drew = .ok (.string P2) w6.drew := by
                      have := run_strConv (VB.out w6.drew B6d.out)
                      rw [z6, hP2] at this
                      exact this
                    have hz1 : P1.size = f := by rw [← hP1, strOfNums_size, List.length_take]; omega
                    have hz2 : P2.size = BL := by rw [← hP2, strOfNums_size, z6]
                    have hz3 : P3.size = M - fB := by rw [← hP3, strOfNums_size, List.length_drop, z5]
                    have hz12 : P12.size = f + BL := by rw [← hP12, strOfNums_size, List.length_append, List.length_take, z6]; omega
                    have ea1 : P1 ++ P2 = P12 := by rw [← hP1, ← hP2, ← hP12, str_app]
                    have ea2 : P12 ++ P3 = P := by rw [← hP12, ← hP3, ← hP, str_app, put8, z6, z4]
                    have na1 : ¬ (P1.size + P2.size > 9223372036854775807) := by omega
                    have na2 : ¬ (P12.size + P3.size > 9223372036854775807) := by omega
                    have na3 : ¬ (9223372036854775807 < P1.size + P2.size) := by omega
                    have na4 : ¬ (9223372036854775807 < P12.size + P3.size) := by omega
                    have e9 : w6.drew.cell? ⟨wo.heap.size, 4, none⟩ = some (.slice pb BL cb) := DB.out w6.drew B6d.out
                    obtain ⟨D, ho, hd1, hd2⟩ := (HM0.out w6.drew B6d.out).ex
                    have HOD := Lib.hid (And.intro ho (And.intro hd1 hd2))
                    have HKK := Lib.hid (show k ≤ 100 by have := HK.out; have := HD.out.2; omega)
                    have UP6 := Lib.hid (below_more UP.out B6d.out)
                    have HPP := Lib.hid hP
                    have RW6 : Hid (RU w6.drew v6 (appF wl E)) := Lib.hid (ru_below O6.out (Below.refl _ _).drew)
                    clear ho hd1 hd2 hP1 hP2 hP3 hP12 hP hz1 hz2 hz3 hz12 z1 z2 z3 z4 z5 z6 hfit hMs hSA hF hAS HSZ O6 SAME
                    go_wp2
                    refine wp_region_still_tail 24 (by kernel_rfl) (by kernel_rfl) ?_
                    simp only [List.take_succ_cons, List.take_zero, List.drop_succ_cons, List.drop_zero]
                    change wpStill _ _ (World.drew _) _ _ _
                    repeat still_step
                    refine wpStill_nil ?_
                    change wpList _ _ _ _ _ (World.drew _)
                    refine wpList_mapUpdate_own _ rfl _ _ _ 48 rfl 3 58 key_law Try.underlying48 bsR w2.heap.size k D rfl HOD.out.1 (by have := HKK.out; unfold maxLen; omega) _ _ _ rfl rfl (Maps.keyOf_int_mk Try.underlying3 XW.out) _ [] (bsR_mk _) ?_
                    intro w7 hown hgrow
                    rw [← HPP.out] at hown
                    have hm7 := HM.put HOD.out.1 HOD.out.2.1 HOD.out.2.2 hown
                    have HE : Hid (KS W w2.heap.size w w7 v6 (k + 1)) := Lib.hid ⟨Below.grown UP6.out hgrow UP6.out.size (fun q hq => by cases hq; exact HG.out), _, l1, _, ru_same RW6.out (cells_stay hgrow (fun p hp => (HM0.out w6.drew B6d.out).no_cell hp) (fun p hp => hm7.no_cell hp)), HFIN.out.2.1, HFIN.out.1, HFIN.out.2.2.1, hm7, HFIN.out.2.2.2⟩
                    clear hown hgrow hm7
                    go_wp2
                    go_meet
                    exact HE
              · as_aux_lemma =>
                have HE : Hid (KS W w2.heap.size w X (.slice pw W cw) (k + 1)) := Lib.hid ⟨UP.out, wl, l1, S, RW.out X (Below.refl _ _), HLN.out, HOK.out, HB.out, (HM0.out X (Below.refl _ _)).mono (Nat.le_succ k), HH.out⟩
                go_wp2
                go_meet
                exact HE
            case rest => as_aux_lemma =>
              have HS := Lib.hid hcut.out
              clear hcut
              obtain ⟨wl2, l2, S2, g1, g2, g3, g4, g5, g6⟩ := HS.out.ex
              obtain ⟨D, ho, hd1, hd2⟩ := g5.ex
              have HU2 := Lib.hid HS.out.up
              have HW2 := Lib.hid (And.intro g2 (And.intro g3 (And.intro g4 g6)))
              have HD2 := Lib.hid (And.intro hd1 hd2)
              have HR2 := Lib.hid g1
              have HO2 := Lib.hid ho
              clear g1 g2 g3 g4 g5 g6 hd1 hd2 ho HS
              go_wp2_with (first | (at_range; refine wpList_range_own _ rfl _ 48 rfl 3 58 key_law Try.underlying48 bsR w2.heap.size (k + 1) D rfl HO2.out ?_; intro w5 hrg hg5 hs5) | go_in)
              have HR5 : Hid (RU w5 u7 wl2) := Lib.hid (ru_same HR2.out fun p hp => World.cell?_of_block (hg5.block p.block hp (by simp)))
              have HU5 : Hid (Below w.heap.size w w5) := Lib.hid (Below.grown HU2.out hg5 HU2.out.size (fun q hq => by cases hq))
              have HG5 := Lib.hid hrg
              have HRS : Hid (w.heap.size ≤ wc.heap.size) := Lib.hid HU2.out.size
              clear hrg hg5 hs5 HO2 HR2 HU2
              try go_frame
              go_loopw [31] (fun _ wr => Hid (∃ (left : Lit → Bool) (cnt : Nat), wr.ranges Try.prog 3 bsR w2.heap.size wc.heap.size (k + 1) D left cnt ∧ Below w.heap.size w wr ∧ RU wr u7 wl2)) (fun _ wr => wr.rangeLeft w2.heap.size wc.heap.size)
              case atStart => exact Lib.hid ⟨_, _, HG5.out, HU5.out, HR5.out⟩
              case round => as_aux_lemma =>
                obtain ⟨left, cnt, hrg, hup, hru⟩ := hrel.out
                have HQ := Lib.hid (And.intro hrg (And.intro hup hru))
                clear hrel hrg hup hru HG5 HU5 HR5
                go_wp2_with (first | (at_next; refine wpList_next_bs rfl _ rfl rfl HQ.out.1 ?_ ?_) | go_in)
                · as_aux_lemma =>
                  intro _
                  have HE : Hid (KS W w2.heap.size w wr u7 (k + 1)) := Lib.hid ⟨HQ.out.2.1, wl2, l2, S2, HQ.out.2.2, HW2.out.1, HW2.out.2.1, HW2.out.2.2.1, ⟨D, HQ.out.1.owns, HD2.out.1, HD2.out.2⟩, HW2.out.2.2.2⟩
                  go_wp2
                  go_roundw
                  case rel => exact ⟨k + 1, by have := HK.out; omega, by go_num, HE⟩
                  case measure => have := HK.out; simp [intOf]; omega
                · as_aux_lemma =>
                  intro x s w6 cnt1 hwx hat hrg1 hlt hg6 hs6 hen
                  obtain ⟨L9, hSx, hs⟩ := at_is_of HD2.out.1 HD2.out.2 hat
                  obtain ⟨LL, hLL⟩ : ∃ LL, L9.length = LL := ⟨_, rfl⟩
                  have hsz : s.size = LL := by rw [hs, strOfNums_size, hLL]
                  obtain ⟨n, hn⟩ : ∃ n, min LL 448 = n := ⟨_, rfl⟩
                  obtain ⟨r1, r2, r3, r4, r5⟩ := HW2.out.2.2.2.read HW2.out.2.2.1 hSx (n := n) (by omega) (by omega)
                  have RU6 : RU w6 u7 wl2 := ru_same HQ.out.2.2 (cells_stay hg6 (fun p hp => ranges_no_cell HQ.out.1 hp) (fun p hp => ranges_no_cell hrg1 hp))
                  obtain ⟨V, hV⟩ : ∃ V, w6.alloc (.cells #[.string s] 58) = V := ⟨_, rfl⟩
                  have BV : Below w6.heap.size w6 V := by rw [← hV]; exact bal (Below.refl _ _)
                  have cV : V.cell? ⟨w6.heap.size, 0, none⟩ = some (.string s) := by rw [← hV]; exact Whole.at_ (show Whole (w6.alloc (.cells #[.string s] 58)) w6.heap.size 58 #[.string s] from heap_alloc_new w6 _) 0
                  have CR := Lib.hid (rd_is wl2 x n u7 V (ru_below RU6 BV) (by have := HW2.out.1; have := HW.out; omega) HW2.out.2.1 (by omega))
                  rw [r1, r2] at CR
                  have hext : s.extract 0 n = strOfNums (L9.take n) := by rw [hs, str_take]
                  have HFIN : Hid (∀ w', Below V.heap.size V w' → w'.ranges Try.prog 3 bsR w2.heap.size wc.heap.size (k + 1) D (fun z => left z && !z.sameKey (.int .i64 x)) cnt1 ∧ Below w.heap.size w w' ∧ RU w' u7 wl2) := Lib.hid fun w' hb => by
                    have hb6 := below_more BV hb
                    refine ⟨ranges_of hrg1 (hb6.block _ hrg1.owns.lt) (hb6.block _ hrg1.lt), below_more (Below.grown HQ.out.2.1 hg6 HQ.out.2.1.size (fun q hq => by cases hq; exact HRS.out)) hb6, ru_below RU6 hb6⟩
                  have HLT := Lib.hid (And.intro hlt HQ.out.1)
                  have HNN := Lib.hid (And.intro hn (And.intro r4 r5))
                  generalize L9.take n = P9 at *
                  obtain ⟨nI, hnI⟩ : ∃ z : Int, (n : Int) = z := ⟨_, rfl⟩
                  rw [hnI] at CR
                  clear hSx hs r1 r2 r3 r4 r5 RU6 BV hat hrg1 hg6 hs6 hlt hLL
                  by_cases c1 : (448 : Int) < (LL : Int)
                  · obtain rfl : nI = 448 := by omega
                    have c2 : 448 < LL := by omega
                    obtain rfl : n = 448 := by omega
                    clear hn hnI
                    go_wp2_with fail
                    refine (CR.out).mono ?_; rintro e w8 ⟨⟨v8, rfl, o8⟩, b8⟩
                    have hcv : ∀ m, (strConv v8).run Try.prog (w8.drewN m) = .ok (.string (strOfNums P9)) (w8.drewN m) := fun m => run_strConv (ra_below o8.ra (below_drewN (Below.refl _ _) m))
                    have HFIN8 := Lib.hid (fun m => HFIN.out (w8.drewN m) (below_drewN b8 m))
                    generalize strOfNums P9 = SP at *
                    have hq1 : (SP.toList == SP.toList) = true := by simp
                    have hq2 : (SP.toList != SP.toList) = false := by simp
                    have hq5 : (!(SP.toList == SP.toList)) = false := by simp
                    clear o8 b8 CR HFIN
                    go_wp2_with fail
                    go_quiet (fail)
                    have HE := Lib.hid (HFIN8.out nq)
                    go_wp2
                    go_roundw
                    case rel => exact Lib.hid ⟨_, _, HE.out⟩
                    case measure => rw [HE.out.1.left_eq, HLT.out.2.left_eq]; exact HLT.out.1
                  · obtain rfl : nI = (LL : Int) := by omega
                    have c2 : ¬ 448 < LL := by omega
                    have en : n = LL := by omega
                    rw [en] at hext
                    clear hn hnI en
                    go_wp2_with fail
                    refine (CR.out).mono ?_; rintro e w8 ⟨⟨v8, rfl, o8⟩, b8⟩
                    have hcv : ∀ m, (strConv v8).run Try.prog (w8.drewN m) = .ok (.string (strOfNums P9)) (w8.drewN m) := fun m => run_strConv (ra_below o8.ra (below_drewN (Below.refl _ _) m))
                    have HFIN8 := Lib.hid (fun m => HFIN.out (w8.drewN m) (below_drewN b8 m))
                    generalize strOfNums P9 = SP at *
                    have hq1 : (SP.toList == SP.toList) = true := by simp
                    have hq2 : (SP.toList != SP.toList) = false := by simp
                    have hq5 : (!(SP.toList == SP.toList)) = false := by simp
                    clear o8 b8 CR HFIN
                    go_wp2_with fail
                    go_quiet (fail)
                    have HE := Lib.hid (HFIN8.out nq)
                    go_wp2
                    go_roundw
                    case rel => exact Lib.hid ⟨_, _, HE.out⟩
                    case measure => rw [HE.out.1.left_eq, HLT.out.2.left_eq]; exact HLT.out.1
    · as_aux_lemma =>
      obtain rfl : k = dl.length := by omega
      have D0 := Lib.hid H.out.up
      clear H hk hlt
      go_wp2_with fail
      refine (awake_any _).mono ?_; rintro e w5 ⟨rfl, b5⟩
      have D5 := Lib.hid (below_more D0.out b5)
      clear b5
      go_wp2_with fail
      go_ret
      exact ⟨rfl, D5.out⟩

theorem walk (a0 : Int) (l1 : List Int) (v1 : Value) (l2 : List Dx) (v2 : Value) (w : World) (_h0 : (Lit.int .i64 a0).wf = true) (h1 : IntsIn .i64 w v1 l1) (h2 : RA (doE w) w v2 l2) :
    Calls Try.prog 4 #[.int .i64 a0, v1, v2] w fun e w' => e = .returned (.bool true) ∧ Below w.heap.size w w' := by
  have h1' := ri_in h1
  obtain ⟨q, c, rfl, _, _, _⟩ := id h1'
  by_cases h : 0 < hvF 0 l2 ∨ 60 < l1.length
  · exact far a0 l1.length c q l2 v2 w h2 h
  · have h' := not_or.1 h
    exact near a0 l1 q c l2 v2 w h1' h2 h'.1 (by omega)

set_option maxRecDepth 100000 in
theorem lifted (os : Os) (started : os.Started) (H : Type) (enc : TypeId × Value → H) :
    ReturnsInHanded {} Try.checked os 4 .any (Rows.imageKeepsSpec.pre6 enc Try.prog Try.f4 Rows.imageKeepsRow.domain false) (Rows.imageKeepsSpec.post enc Try.prog Try.f4 false true false false) := by
  refine returnsInHanded_of_change (C := Try.checked) own started (by kernel_rfl) Try.func4
    (ChangeSpec.witness6 (enc := enc) (C := Try.checked) false ⟨#[], #[.int .i64 0, .slice none 0 0, .slice none 0 0], []⟩ 8 (by kernel_rfl) (by kernel_rfl) (by kernel_rfl) (by kernel_rfl)) ?_
  intro W base args ds gs before hval0 hW hcnd _
  have hval : ∀ (j : Nat) t v, Try.f4.params[j]? = some t → args[j]? = some v → Value.okWide Try.prog W .any base t v := hval0
  have hW' := hW
  have hlt := hW.lt
  obtain ⟨p, q, hA0, hV, hpq, hfz, hnd⟩ := hW
  have hA : DataW.TrodAll enc Try.prog W 0 (fun _ => true) true Try.f4.params.toList args.toList ds p := hA0
  rw [Try.params4] at hA hval
  obtain ⟨v0, vs0, d0, ds0, p0, q0, hargs, rfl, hp, h0, r0⟩ := trodAll_cons hA
  obtain ⟨v1, vs1, d1, ds1, p1, q1, rfl, rfl, rfl, h1, r1⟩ := trodAll_cons r0
  obtain ⟨v2, vs2, d2, ds2, p2, q2, rfl, rfl, rfl, h2, r2⟩ := trodAll_cons r1
  obtain ⟨rfl, rfl, rfl⟩ := trodAll_nil r2
  obtain rfl : args = #[v0, v1, v2] := by cases args; simp_all
  obtain ⟨rfl, rfl⟩ := trodVars_none hV
  have hlt' : ∀ x ∈ before, x.block < W.heap.size := fun x hx => hlt x hx
  obtain ⟨a0, rfl, rfl, rfl, w0⟩ := open_int Try.underlying3 (hval 0 3 v0 rfl rfl) h0
  obtain ⟨l1, w1⟩ := ints_in Try.underlying23 Try.underlying3 (by kernel_rfl) (hval 1 23 v1 rfl rfl) (fun x hx => hlt' x (by rw [hpq, hp]; simp [hx])) h1
  obtain ⟨l2, w2⟩ := dos_in (hval 2 44 v2 rfl rfl) h2
  refine (walk a0 l1 v1 l2 v2 W w0 w1 w2).mono fun e W' ⟨he, hb⟩ => ?_
  subst he
  exact ⟨_, rfl, law_post rfl (by kernel_rfl) hW' (by rw [Try.params4]; intro t ht; simp only [List.mem_cons, List.not_mem_nil, or_false] at ht; (repeat' (first | (rcases ht with rfl | ht) | subst ht)) <;> exact ⟨by kernel_rfl, of_decide_eq_true (by kernel_rfl)⟩) rfl hb⟩

theorem over : Rows.imageKeepsRow.holds Try.pinned (OpenSpec.ofChange Rows.imageKeepsSpec) :=
  OpenClaim.holds_of_wide 4 Try.f4 rfl rfl rfl rfl rfl rfl rfl ⟨rfl, rfl, rfl, rfl, rfl⟩ rfl rfl rfl rfl rfl (by kernel_rfl) Try.func4 (by kernel_rfl)
    (of_decide_eq_true (by kernel_rfl)) (by unfold Func.isWrapper; first | (rw [if_pos (by decide +kernel)]; kernel_rfl) | (rw [if_neg (by decide +kernel)]; exact ⟨rfl, rfl⟩))
    (fun os started H enc _ => lifted os started H enc)

theorem proved : Rows.ImageKeepsSaid := over
end Go.Proofs.Ytkfkpjgijepjfaa.imageKeeps
