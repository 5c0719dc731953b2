/-
  Contract of the reference's judge: what is told of an operation.
-/
import Derived.Test.YtkpefnjohdjejaaJgr
namespace Go.Proofs.Ytkpefnjohdjejaa
set_option maxRecDepth 100000
open Go.ChangeShapes Go.WideShapes Go.ChangeAt Go.RowKit

theorem bare_eq {e o : Int} {l : List Int} : decide (bare3 e o l e) = decide (only3 o l) := by
  exact decide_eq_decide.2 ⟨fun q => q.2, fun q => ⟨rfl, q⟩⟩
theorem b3_of {e o : Int} {l : List Int} (h : only3 o l) : bare3 e o l e := ⟨rfl, h⟩
set_option maxHeartbeats 8000000 in
theorem rsee_is {w : World} {D : List Nat} {j g : Nat} {s : Js} (x : Px) (e o : Int) {v : Value} {l : List Int} (h : Ro w D j g s) (hx : RA byE w x.v x.bl) (hxl : x.bl.length ≤ 100000) (ho : -9223372036854775808 ≤ x.o ∧ x.o ≤ 9223372036854775807) (hn : -9223372036854775808 ≤ x.nn ∧ x.nn ≤ 9223372036854775807) (hv : RA byE w v l) (hM : x.d = 4 → ∃ M, WrT s.wl x.bl x.o M) : Calls Try.prog 11 #[.pointer (some ⟨j, 0, none⟩), .agg (pxc x), .agg (anc e o v)] w fun f w' =>
    ROut3 w w' D j g (fun b s' => SeeQ s x.d x.o x.nn x.bl e o l b s') f := by
  obtain ⟨qx, cx, hxv, _⟩ := ra_shape hx
  obtain ⟨q, c, hvv, _⟩ := ra_shape hv
  obtain ⟨W0, hW0, hst0, H0⟩ := px_boxed w x (by rw [hxv]; rfl)
  obtain ⟨W, hW, hst, H⟩ := an_boxed W0 e o (v := v) (by rw [hvv]; rfl)
  have s0 : W0.heap.size = w.heap.size + 1 := by rw [← hW0, size_alloc]
  have hB : Below w.heap.size w W := below_more H0.out.2 H.out.2
  have PX := H0.out.1.below H.out.2
  rw [s0] at H hst
  have HB := Lib.hid hB
  have HX := Lib.hid (fun w' (hb : Below W.heap.size W w') => ra_below hx (below_more hB hb))
  have HV := Lib.hid (fun w' (hb : Below W.heap.size W w') => ra_below hv (below_more hB hb))
  have JB := Lib.hid (fun w' (hb : Below W.heap.size W w') => h.below (below_more hB hb))
  have HD : Hid (j < w.heap.size ∧ g < w.heap.size) := Lib.hid ⟨h.top.lt, h.m.dlt g h.m.gD⟩
  have PXH := Lib.hid (fun w' (hb : Below W.heap.size W w') => PX.below hb)
  have ANH := Lib.hid (fun w' (hb : Below W.heap.size W w') => H.out.1.below hb)
  have ldW := H.out.1.load
  have a0 := H.out.1.c0
  have HL := Lib.hid (And.intro hxl (And.intro ho hn))
  have HMM := Lib.hid hM
  have Hxv := Lib.hid hxv
  have C1 := Lib.hid (rsame_bare (e := e) (o := o) (k := e) (HV.out W (Below.refl _ _)))
  obtain ⟨bo, hbo⟩ : ∃ bo, decide (only3 o l) = bo := ⟨_, rfl⟩
  rw [bare_eq, hbo] at C1
  have HBO := Lib.hid hbo
  subst hvv
  clear hv h hx hxl ho hn hxv H H0 hB PX hM hbo
  go_enter Try.func11, Try.ntmps11
  go_wp2_with fail
  refine (C1.out).mono ?_; rintro f w1 ⟨rfl, b1⟩
  have B1 := Lib.hid b1
  have c1 := (JB.out w1 b1).c0
  have C2 := Lib.hid (rclone_is w1 (JB.out w1 b1).m)
  clear b1 C1 ldW a0
  go_wp2_with fail
  refine (C2.out).mono ?_; rintro f w2 ⟨⟨y, rfl, y1, y2, m2⟩, b2⟩
  have MID : Hid (Mid w W w2 D j g y s) := Lib.hid (by
    have hs := HB.out.size
    have hs1 := B1.out.size
    have hd := HD.out
    have jw := JB.out w1 B1.out
    exact ⟨HB.out, below_more B1.out b2, ⟨(jw.below b2).top, jw.m.more b2 y1 y2, List.mem_cons_of_mem _ jw.jD, jw.ne⟩, m2, by omega, by omega, by omega⟩)
  have z0 : w2.cell? ⟨w.heap.size, 0, none⟩ = some (.int .i64 x.d) := (PXH.out w2 MID.out.bT).c0
  have z1 : w2.cell? ⟨w.heap.size, 1, none⟩ = some (.int .i64 x.o) := (PXH.out w2 MID.out.bT).c1
  have z2 : w2.cell? ⟨w.heap.size, 2, none⟩ = some (.int .i64 x.nn) := (PXH.out w2 MID.out.bT).c2
  have ae : w2.cell? ⟨w.heap.size + 1, 0, none⟩ = some (.int .i64 e) := (ANH.out w2 MID.out.bT).c0
  have jw : w2.cell? ⟨j, 1, none⟩ = some (.bool s.w) := MID.out.jd.c1
  have jf := MID.out.jd.f 1
  clear m2 b2 y1 y2 c1 C2
  have ST : Hid (∀ w' b, Below w2.heap.size w2 w' → SeeQ s x.d x.o x.nn x.bl e o l b s → ROut3 w w' D j g (fun b s' => SeeQ s x.d x.o x.nn x.bl e o l b s') (.returned (.bool b))) := Lib.hid fun w' b hb q => MID.out.stay hb q
  -- worn, or not: stored
  have SW : Hid (∀ b0 b (s' : Js), s' = { s with w := b0 } → SeeQ s x.d x.o x.nn x.bl e o l b s' → ROut3 w (w2.setCell ⟨j, 1, none⟩ (.bool b0)) D j g (fun b s' => SeeQ s x.d x.o x.nn x.bl e o l b s') (.returned (.bool b))) := Lib.hid fun b0 b s' hs' q => by
    subst hs'
    obtain ⟨g1, g2⟩ := MID.out.jd.wear b0
    exact rout_stay MID.out.bW MID.out.yy MID.out.bT g1 g2 q
  by_cases hd1 : x.d = 1
  · have QA : Hid (∀ b s', SeeA s x.nn e o l b s' → SeeQ s x.d x.o x.nn x.bl e o l b s') := Lib.hid fun b s' q => by unfold SeeQ; rw [if_pos hd1]; exact q
    have C3 := Lib.hid (rneed_is x.nn w2)
    obtain ⟨N, hNN⟩ : ∃ N, needN x.nn = N := ⟨_, rfl⟩
    rw [hNN] at C3
    have HNN := Lib.hid hNN
    rw [hd1] at z0
    clear hd1 hNN
    by_cases hN : N = 0
    · subst hN
      cases bo with
      | false =>
        have G := Lib.hid (ST.out w2 false (Below.refl _ _) (QA.out _ _ (by unfold SeeA; rw [if_pos HNN.out]; exact ⟨(decide_eq_false fun q => of_decide_eq_false HBO.out q.2).symm, rfl⟩)))
        go_wp2_with fail
        refine (C3.out).mono ?_; rintro e w' ⟨rfl, rfl⟩
        go_wp2_with fail
        go_ret
        exact G.out
      | true =>
        by_cases he : e = 1
        · subst he
          have G := Lib.hid (ST.out w2 true (Below.refl _ _) (QA.out _ _ (by unfold SeeA; rw [if_pos HNN.out]; exact ⟨(decide_eq_true (b3_of (e := 1) (of_decide_eq_true HBO.out))).symm, rfl⟩)))
          go_wp2_with fail
          refine (C3.out).mono ?_; rintro e w' ⟨rfl, rfl⟩
          go_wp2_with fail
          go_ret
          exact G.out
        · have G := Lib.hid (ST.out w2 false (Below.refl _ _) (QA.out _ _ (by unfold SeeA; rw [if_pos HNN.out]; exact ⟨(decide_eq_false fun q => he q.1).symm, rfl⟩)))
          have ie : (e == 1) = false := beq_eq_false_iff_ne.2 he
          clear he
          go_wp2_with fail
          refine (C3.out).mono ?_; rintro e w' ⟨rfl, rfl⟩
          go_wp2_with fail
          go_ret
          exact G.out
    have iN : (N == 0) = false := beq_eq_false_iff_ne.2 hN
    have HN : Hid (needN x.nn ≠ 0) := Lib.hid (by rw [HNN.out]; exact hN)
    clear hN
    by_cases he3 : e = 3
    · subst he3
      obtain ⟨sw, hsw⟩ : ∃ b, s.w = b := ⟨_, rfl⟩
      rw [hsw] at jw
      have HS := Lib.hid hsw
      clear hsw
      cases bo with
      | false =>
        have hno : ¬ only3 o l := of_decide_eq_false HBO.out
        have G := Lib.hid (SW.out sw false s (js_w HS.out).symm (QA.out _ _ (by
          unfold SeeA
          rw [if_neg HN.out, if_neg (fun q => hno q.2)]
          split
          · exact ⟨rfl, rfl⟩
          · rw [if_neg (fun q => hno q.2), if_neg (fun q => by have := q.1; omega)]; exact ⟨rfl, rfl⟩)))
        clear hno
        cases sw with
        | false =>
          go_wp2_with fail
          refine (C3.out).mono ?_; rintro e w' ⟨rfl, rfl⟩
          go_wp2_with fail
          go_ret
          exact G.out
        | true =>
          go_wp2_with fail
          refine (C3.out).mono ?_; rintro e w' ⟨rfl, rfl⟩
          go_wp2_with fail
          go_ret
          exact G.out
      | true =>
        have G := Lib.hid (SW.out true true _ rfl (QA.out _ _ (by
          unfold SeeA
          rw [if_neg HN.out, if_pos (b3_of (e := 3) (of_decide_eq_true HBO.out))]
          exact ⟨rfl, rfl⟩)))
        cases sw with
        | false =>
          go_wp2_with fail
          refine (C3.out).mono ?_; rintro e w' ⟨rfl, rfl⟩
          go_wp2_with fail
          go_ret
          exact G.out
        | true =>
          go_wp2_with fail
          refine (C3.out).mono ?_; rintro e w' ⟨rfl, rfl⟩
          go_wp2_with fail
          go_ret
          exact G.out
    have ie3 : (e == 3) = false := beq_eq_false_iff_ne.2 he3
    have HE3 : Hid (¬ bare3 e o l 3) := Lib.hid fun q => he3 q.1
    clear he3
    by_cases hw : s.w = true
    · rw [hw] at jw
      have G := Lib.hid (ST.out w2 false (Below.refl _ _) (QA.out _ _ (by unfold SeeA; rw [if_neg HN.out, if_neg HE3.out, if_pos hw]; exact ⟨rfl, rfl⟩)))
      clear hw
      go_wp2_with fail
      refine (C3.out).mono ?_; rintro e w' ⟨rfl, rfl⟩
      go_wp2_with fail
      go_ret
      exact G.out
    have hw0 : s.w = false := by simpa using hw
    rw [hw0] at jw
    have HW := Lib.hid hw
    have HW0 := Lib.hid hw0
    clear hw hw0
    by_cases he4 : e = 4
    · subst he4
      cases bo with
      | false =>
        have hno : ¬ only3 o l := of_decide_eq_false HBO.out
        have G := Lib.hid (ST.out w2 false (Below.refl _ _) (QA.out _ _ (by unfold SeeA; rw [if_neg HN.out, if_neg HE3.out, if_neg HW.out, if_neg (fun q => hno q.2), if_neg (fun q => by have := q.1; omega)]; exact ⟨rfl, rfl⟩)))
        clear hno
        go_wp2_with fail
        refine (C3.out).mono ?_; rintro e w' ⟨rfl, rfl⟩
        go_wp2_with fail
        go_ret
        exact G.out
      | true =>
        have CF := Lib.hid (rmfit_is x.nn w2 MID.out.md)
        rw [HNN.out] at CF
        have F1 := Lib.hid (fun w' (hb : Below w2.heap.size w2 w') => ST.out w' (decide (fos N s.l = [])) hb (QA.out _ _ (by unfold SeeA; rw [if_neg HN.out, if_neg HE3.out, if_neg HW.out, if_pos (b3_of (e := 4) (of_decide_eq_true HBO.out)), HNN.out]; exact ⟨rfl, rfl⟩)))
        generalize fos N s.l = F at *
        go_wp2_with fail
        refine (C3.out).mono ?_; rintro e w' ⟨rfl, rfl⟩
        go_wp2_with fail
        refine (CF.out).mono ?_; rintro f w4 ⟨⟨v4, rfl, o4⟩, b4⟩
        have B4 := Lib.hid b4
        obtain ⟨ql, cl, rfl⟩ : ∃ q c, v4 = .slice q F.length c := by
          obtain ⟨q, c, e, _⟩ := o4.ri
          exact ⟨q, c, e⟩
        clear o4 b4
        by_cases hF : F = []
        · subst hF
          have G := Lib.hid (F1.out _ B4.out)
          rw [decide_eq_true rfl] at G
          go_wp2_with fail
          go_ret
          exact G.out
        · have G := Lib.hid (F1.out _ B4.out)
          rw [decide_eq_false hF] at G
          have hL := List.length_pos_iff.2 hF
          clear hF F1
          generalize F.length = FL at *
          have i1 : ¬ FL = 0 := by omega
          have i2 : ((FL : Int) == 0) = false := beq_eq_false_iff_ne.2 (by omega)
          clear hL
          go_wp2_with fail
          go_ret
          exact G.out
    have ie4 : (e == 4) = false := beq_eq_false_iff_ne.2 he4
    have HE4 : Hid (¬ bare3 e o l 4) := Lib.hid fun q => he4 q.1
    clear he4
    by_cases he0 : e = 0
    rotate_left
    · have G := Lib.hid (ST.out w2 false (Below.refl _ _) (QA.out _ _ (by unfold SeeA; rw [if_neg HN.out, if_neg HE3.out, if_neg HW.out, if_neg HE4.out, if_neg (fun q => he0 q.1)]; exact ⟨rfl, rfl⟩)))
      have ie0 : (e == 0) = false := beq_eq_false_iff_ne.2 he0
      have ie1 : (e != 0) = true := by simpa using he0
      clear he0
      go_wp2_with fail
      refine (C3.out).mono ?_; rintro e w' ⟨rfl, rfl⟩
      go_wp2_with fail
      go_ret
      exact G.out
    subst he0
    have av : w2.cell? ⟨w.heap.size + 1, 2, none⟩ = some (.slice q l.length c) := (ANH.out w2 MID.out.bT).c2
    have ao : w2.cell? ⟨w.heap.size + 1, 1, none⟩ = some (.int .i64 o) := (ANH.out w2 MID.out.bT).c1
    by_cases hl : l = []
    rotate_left
    · have G := Lib.hid (ST.out w2 false (Below.refl _ _) (QA.out _ _ (by unfold SeeA; rw [if_neg HN.out, if_neg HE3.out, if_neg HW.out, if_neg HE4.out, if_neg (fun q => hl q.2)]; exact ⟨rfl, rfl⟩)))
      have hL := List.length_pos_iff.2 hl
      clear hl
      generalize l.length = L at *
      have i7 : ¬ L = 0 := by omega
      have i8 : ((L : Int) == 0) = false := beq_eq_false_iff_ne.2 (by omega)
      have i9 : ((L : Int) != 0) = true := by simpa using i7
      clear hL
      go_wp2_with fail
      refine (C3.out).mono ?_; rintro e w' ⟨rfl, rfl⟩
      go_wp2_with fail
      go_ret
      exact G.out
    subst hl
    have CA := Lib.hid (rmalloc_is x.nn o w2 MID.out.md)
    rw [HNN.out] at CA
    have SA : Hid (SeeA s x.nn 0 o [] (alQ N s.l o).isSome { s with wl := alW s.wl N s.l o, l := alB N s.l o }) := Lib.hid (by unfold SeeA; rw [if_neg HN.out, if_neg HE3.out, if_neg HW.out, if_neg HE4.out, if_pos ⟨rfl, rfl⟩, HNN.out]; exact ⟨rfl, rfl⟩)
    have NO := Lib.hid (fun (q : (alQ N s.l o).isSome = false) => alq_none (wl := s.wl) q)
    generalize (alQ N s.l o).isSome = bq at *
    generalize hAW : alW s.wl N s.l o = aw at *
    generalize hAB : alB N s.l o = ab at *
    go_wp2_with fail
    refine (C3.out).mono ?_; rintro e w' ⟨rfl, rfl⟩
    go_wp2_with fail
    refine (CA.out).mono ?_; rintro f w4 ⟨rfl, m4, k4⟩
    obtain ⟨p1, p2⟩ := MID.out.past k4 m4.dlt
    cases bq with
    | false =>
      obtain ⟨n1, n2⟩ := NO.out rfl
      subst n1 n2
      have G := Lib.hid (rout_stay (b := false) MID.out.bW MID.out.yy p2 p1 (Chg.refl _ _) (QA.out _ _ SA.out))
      clear p1 p2 m4 k4
      go_wp2_with fail
      go_ret
      exact G.out
    | true =>
      obtain ⟨g1, g2⟩ := p1.next (s2 := { s with wl := aw, l := ab }) m4 MID.out.jy rfl
      have G := Lib.hid (rout_next (g := g) (b := true) MID.out.bW MID.out.yy p2 g1 g2 (QA.out _ _ SA.out))
      have f4 := p1.f 0
      have q4 := p1.c0
      clear p1 p2 m4 k4 g1 g2
      go_wp2_with fail
      go_ret
      exact G.out
  have i1 : (x.d == 1) = false := beq_eq_false_iff_ne.2 hd1
  by_cases hdc : x.d = 2 ∨ x.d = 4 ∨ x.d = 5
  · have QC : Hid (∀ b s', SeeC s x.d x.o x.bl e o l b s' → SeeQ s x.d x.o x.nn x.bl e o l b s') := Lib.hid fun b s' q => by unfold SeeQ; rw [if_neg hd1, if_pos hdc]; exact q
    rcases hdc with hd | hd | hd
    · have HMU : Hid (must x.d x.bl) := Lib.hid fun q => by omega
      have CC := Lib.hid (rch2 x hd MID.out.md)
      rw [hd] at z0
      have k0 : ∀ w', Below W.heap.size W w' → w'.cell? ⟨w.heap.size, 0, none⟩ = some (.int .i64 2) := fun w' hb => by rw [← hd]; exact (PXH.out w' hb).c0
      clear hd
      go_wp2_with fail
      refine (CC.out).mono ?_; rintro f w3 ⟨er, s2, rfl, hq, hsw, m3, k3⟩
      obtain ⟨p1, p2⟩ := MID.out.past k3 m3.dlt
      have HQ := Lib.hid hq
      have P1 := Lib.hid p1
      have P2 := Lib.hid p2
      have M3 := Lib.hid m3
      have HSW := Lib.hid hsw
      have y0 := k0 w3 p2
      have ye : w3.cell? ⟨w.heap.size + 1, 0, none⟩ = some (.int .i64 e) := (ANH.out w3 p2).c0
      have yw : w3.cell? ⟨j, 1, none⟩ = some (.bool s.w) := p1.c1
      have yf := p1.f 1
      have yf0 := p1.f 0
      have yp := p1.c0
      have ST3 : Hid (∀ b, SeeC s x.d x.o x.bl e o l b s → ROut3 w w3 D j g (fun b s' => SeeQ s x.d x.o x.nn x.bl e o l b s') (.returned (.bool b))) := Lib.hid fun b q => rout_stay MID.out.bW MID.out.yy P2.out P1.out (Chg.refl _ _) (QC.out _ _ q)
      have SW3 : Hid (∀ b (s' : Js), s' = { s with w := true } → SeeC s x.d x.o x.bl e o l b s' → ROut3 w (w3.setCell ⟨j, 1, none⟩ (.bool true)) D j g (fun b s' => SeeQ s x.d x.o x.nn x.bl e o l b s') (.returned (.bool b))) := Lib.hid fun b s' hs' q => by
        subst hs'
        obtain ⟨g1, g2⟩ := P1.out.wear true
        exact rout_stay MID.out.bW MID.out.yy P2.out g1 g2 (QC.out _ _ q)
      have NX3 : Hid (SeeC s x.d x.o x.bl e o l true s2 → ROut3 w (w3.setCell ⟨j, 0, none⟩ (.pointer (some ⟨y, 0, none⟩))) D j g (fun b s' => SeeQ s x.d x.o x.nn x.bl e o l b s') (.returned (.bool true))) := Lib.hid fun q => by
        obtain ⟨g1, g2⟩ := P1.out.next M3.out MID.out.jy HSW.out
        exact rout_next MID.out.bW MID.out.yy P2.out g1 g2 (QC.out _ _ q)
      clear p1 p2 m3 k3 hsw hq z0 z1 z2 ae jw jf k0 SW ST
      cases bo with
      | false =>
        have G := Lib.hid (ST3.out false (seec_not HQ.out (of_decide_eq_false HBO.out)))
        go_wp2_with fail
        go_ret
        exact G.out
      | true =>
      have HO : Hid (only3 o l) := Lib.hid (of_decide_eq_true HBO.out)
      by_cases hz : er = 0
      rotate_left
      · have j0 : (er == 0) = false := beq_eq_false_iff_ne.2 hz
        have HS2 := Lib.hid (chq_no HQ.out hz)
        have HZ := Lib.hid hz
        clear hz
        by_cases hee : e = er
        · subst hee
          have G := Lib.hid (ST3.out true ⟨e, s2, HQ.out, by rw [if_neg (fun q => HZ.out q.1), if_neg (fun q => HZ.out q.1), if_pos (b3_of (e := e) (HO.out))]; exact ⟨rfl, HS2.out.symm⟩⟩)
          go_wp2_with fail
          go_ret
          exact G.out
        · have j1 : (e != er) = true := by simpa using hee
          have j2 : (e == er) = false := beq_eq_false_iff_ne.2 hee
          have G := Lib.hid (ST3.out false ⟨er, s2, HQ.out, by rw [if_neg (fun q => HZ.out q.1), if_neg (fun q => HZ.out q.1), if_neg (fun q => hee q.1)]; exact ⟨rfl, rfl⟩⟩)
          clear hee
          go_wp2_with fail
          go_ret
          exact G.out
      subst hz
      by_cases hw : s.w = true
      · rw [hw] at yw
        have HW := Lib.hid hw
        clear hw
        by_cases he : e = 3
        · subst he
          have ye' : (w3.setCell ⟨j, 1, none⟩ (.bool true)).cell? ⟨w.heap.size + 1, 0, none⟩ = some (.int .i64 3) := by rw [World.cell?_setCell_other _ _ _ _ (by simp)]; exact ye
          have G := Lib.hid (SW3.out true _ rfl ⟨0, s2, HQ.out, by rw [if_pos ⟨rfl, HMU.out, rfl, HO.out⟩]; exact ⟨rfl, rfl⟩⟩)
          go_wp2_with fail
          go_ret
          exact G.out
        · have j1 : (e == 3) = false := beq_eq_false_iff_ne.2 he
          have ye' : (w3.setCell ⟨j, 1, none⟩ (.bool true)).cell? ⟨w.heap.size + 1, 0, none⟩ = some (.int .i64 e) := by rw [World.cell?_setCell_other _ _ _ _ (by simp)]; exact ye
          have G := Lib.hid (SW3.out false s (js_w HW.out).symm ⟨0, s2, HQ.out, by rw [if_neg (fun q => he q.2.2.1), if_pos ⟨rfl, HMU.out, HW.out⟩]; exact ⟨rfl, rfl⟩⟩)
          clear he
          go_wp2_with fail
          go_ret
          exact G.out
      have hw0 : s.w = false := by simpa using hw
      rw [hw0] at yw
      have HW := Lib.hid hw
      clear hw hw0
      by_cases he : e = 3
      · subst he
        have ye' : (w3.setCell ⟨j, 1, none⟩ (.bool true)).cell? ⟨w.heap.size + 1, 0, none⟩ = some (.int .i64 3) := by rw [World.cell?_setCell_other _ _ _ _ (by simp)]; exact ye
        have G := Lib.hid (SW3.out true _ rfl ⟨0, s2, HQ.out, by rw [if_pos ⟨rfl, HMU.out, rfl, HO.out⟩]; exact ⟨rfl, rfl⟩⟩)
        go_wp2_with fail
        go_ret
        exact G.out
      have j3 : (e == 3) = false := beq_eq_false_iff_ne.2 he
      have N1 : Hid (¬ ((0 : Int) = 0 ∧ must x.d x.bl ∧ bare3 e o l 3)) := Lib.hid fun q => he q.2.2.1
      have N2 : Hid (¬ ((0 : Int) = 0 ∧ must x.d x.bl ∧ s.w = true)) := Lib.hid fun q => HW.out q.2.2
      clear he
      by_cases he0 : e = 0
      · subst he0
        have G := Lib.hid (NX3.out ⟨0, s2, HQ.out, by rw [if_neg N1.out, if_neg N2.out, if_pos (b3_of (e := 0) (HO.out))]; exact ⟨rfl, rfl⟩⟩)
        go_wp2_with fail
        go_ret
        exact G.out
      · have j4 : (e == 0) = false := beq_eq_false_iff_ne.2 he0
        have j5 : (e != 0) = true := by simpa using he0
        have G := Lib.hid (ST3.out false ⟨0, s2, HQ.out, by rw [if_neg N1.out, if_neg N2.out, if_neg (fun q => he0 q.1)]; exact ⟨rfl, rfl⟩⟩)
        clear he0
        go_wp2_with fail
        go_ret
        exact G.out
    · obtain ⟨M, hM⟩ := HMM.out hd
      have CC := Lib.hid (rch4 x hd MID.out.md (HX.out w2 MID.out.bT) HL.out.1 HL.out.2.1 hM)
      rw [Hxv.out] at CC
      have z4 : w2.cell? ⟨w.heap.size, 4, none⟩ = some (.slice qx x.bl.length cx) := by rw [← Hxv.out]; exact (PXH.out w2 MID.out.bT).c4
      rw [hd] at z0
      have k0 : ∀ w', Below W.heap.size W w' → w'.cell? ⟨w.heap.size, 0, none⟩ = some (.int .i64 4) := fun w' hb => by rw [← hd]; exact (PXH.out w' hb).c0
      have k4 : ∀ w', Below W.heap.size W w' → w'.cell? ⟨w.heap.size, 4, none⟩ = some (.slice qx x.bl.length cx) := fun w' hb => by rw [← Hxv.out]; exact (PXH.out w' hb).c4
      by_cases hbl : x.bl = []
      · have HMU : Hid (¬ must x.d x.bl) := Lib.hid fun q => q ⟨hd, hbl⟩
        have hl : x.bl.length = 0 := by rw [hbl]; rfl
        rw [hl] at CC z4 k4
        clear hd hM hbl hl
        go_wp2_with fail
        refine (CC.out).mono ?_; rintro f w3 ⟨er, s2, rfl, hq, hsw, m3, k3⟩
        obtain ⟨p1, p2⟩ := MID.out.past k3 m3.dlt
        have HQ := Lib.hid hq
        have P1 := Lib.hid p1
        have P2 := Lib.hid p2
        have M3 := Lib.hid m3
        have HSW := Lib.hid hsw
        have y0 := k0 w3 p2
        have y4 := k4 w3 p2
        have ye : w3.cell? ⟨w.heap.size + 1, 0, none⟩ = some (.int .i64 e) := (ANH.out w3 p2).c0
        have yw : w3.cell? ⟨j, 1, none⟩ = some (.bool s.w) := p1.c1
        have yf := p1.f 1
        have yf0 := p1.f 0
        have yp := p1.c0
        have ST3 : Hid (∀ b, SeeC s x.d x.o x.bl e o l b s → ROut3 w w3 D j g (fun b s' => SeeQ s x.d x.o x.nn x.bl e o l b s') (.returned (.bool b))) := Lib.hid fun b q => rout_stay MID.out.bW MID.out.yy P2.out P1.out (Chg.refl _ _) (QC.out _ _ q)
        have SW3 : Hid (∀ b (s' : Js), s' = { s with w := true } → SeeC s x.d x.o x.bl e o l b s' → ROut3 w (w3.setCell ⟨j, 1, none⟩ (.bool true)) D j g (fun b s' => SeeQ s x.d x.o x.nn x.bl e o l b s') (.returned (.bool b))) := Lib.hid fun b s' hs' q => by
          subst hs'
          obtain ⟨g1, g2⟩ := P1.out.wear true
          exact rout_stay MID.out.bW MID.out.yy P2.out g1 g2 (QC.out _ _ q)
        have NX3 : Hid (SeeC s x.d x.o x.bl e o l true s2 → ROut3 w (w3.setCell ⟨j, 0, none⟩ (.pointer (some ⟨y, 0, none⟩))) D j g (fun b s' => SeeQ s x.d x.o x.nn x.bl e o l b s') (.returned (.bool true))) := Lib.hid fun q => by
          obtain ⟨g1, g2⟩ := P1.out.next M3.out MID.out.jy HSW.out
          exact rout_next MID.out.bW MID.out.yy P2.out g1 g2 (QC.out _ _ q)
        clear p1 p2 m3 k3 hsw hq z0 z1 z2 ae jw jf k0 SW ST
        cases bo with
        | false =>
          have G := Lib.hid (ST3.out false (seec_not HQ.out (of_decide_eq_false HBO.out)))
          go_wp2_with fail
          go_ret
          exact G.out
        | true =>
        have HO : Hid (only3 o l) := Lib.hid (of_decide_eq_true HBO.out)
        by_cases hz : er = 0
        rotate_left
        · have j0 : (er == 0) = false := beq_eq_false_iff_ne.2 hz
          have HS2 := Lib.hid (chq_no HQ.out hz)
          have HZ := Lib.hid hz
          clear hz
          by_cases hee : e = er
          · subst hee
            have G := Lib.hid (ST3.out true ⟨e, s2, HQ.out, by rw [if_neg (fun q => HZ.out q.1), if_neg (fun q => HZ.out q.1), if_pos (b3_of (e := e) (HO.out))]; exact ⟨rfl, HS2.out.symm⟩⟩)
            go_wp2_with fail
            go_ret
            exact G.out
          · have j1 : (e != er) = true := by simpa using hee
            have j2 : (e == er) = false := beq_eq_false_iff_ne.2 hee
            have G := Lib.hid (ST3.out false ⟨er, s2, HQ.out, by rw [if_neg (fun q => HZ.out q.1), if_neg (fun q => HZ.out q.1), if_neg (fun q => hee q.1)]; exact ⟨rfl, rfl⟩⟩)
            clear hee
            go_wp2_with fail
            go_ret
            exact G.out
        subst hz
        have N1 : Hid (¬ ((0 : Int) = 0 ∧ must x.d x.bl ∧ bare3 e o l 3)) := Lib.hid fun q => HMU.out q.2.1
        have N2 : Hid (¬ ((0 : Int) = 0 ∧ must x.d x.bl ∧ s.w = true)) := Lib.hid fun q => HMU.out q.2.1
        by_cases he0 : e = 0
        · subst he0
          have G := Lib.hid (NX3.out ⟨0, s2, HQ.out, by rw [if_neg N1.out, if_neg N2.out, if_pos (b3_of (e := 0) (HO.out))]; exact ⟨rfl, rfl⟩⟩)
          go_wp2_with fail
          go_ret
          exact G.out
        · have j4 : (e == 0) = false := beq_eq_false_iff_ne.2 he0
          have j5 : (e != 0) = true := by simpa using he0
          have G := Lib.hid (ST3.out false ⟨0, s2, HQ.out, by rw [if_neg N1.out, if_neg N2.out, if_neg (fun q => he0 q.1)]; exact ⟨rfl, rfl⟩⟩)
          clear he0
          go_wp2_with fail
          go_ret
          exact G.out
      · have HMU : Hid (must x.d x.bl) := Lib.hid fun q => hbl q.2
        have hl : ¬ x.bl.length = 0 := fun q => hbl (List.length_eq_zero_iff.1 q)
        have hl2 : ((x.bl.length : Int) == 0) = false := beq_eq_false_iff_ne.2 (by omega)
        clear hd hM hbl
        generalize x.bl.length = XL at *
        go_wp2_with fail
        refine (CC.out).mono ?_; rintro f w3 ⟨er, s2, rfl, hq, hsw, m3, k3⟩
        obtain ⟨p1, p2⟩ := MID.out.past k3 m3.dlt
        have HQ := Lib.hid hq
        have P1 := Lib.hid p1
        have P2 := Lib.hid p2
        have M3 := Lib.hid m3
        have HSW := Lib.hid hsw
        have y0 := k0 w3 p2
        have y4 := k4 w3 p2
        have ye : w3.cell? ⟨w.heap.size + 1, 0, none⟩ = some (.int .i64 e) := (ANH.out w3 p2).c0
        have yw : w3.cell? ⟨j, 1, none⟩ = some (.bool s.w) := p1.c1
        have yf := p1.f 1
        have yf0 := p1.f 0
        have yp := p1.c0
        have ST3 : Hid (∀ b, SeeC s x.d x.o x.bl e o l b s → ROut3 w w3 D j g (fun b s' => SeeQ s x.d x.o x.nn x.bl e o l b s') (.returned (.bool b))) := Lib.hid fun b q => rout_stay MID.out.bW MID.out.yy P2.out P1.out (Chg.refl _ _) (QC.out _ _ q)
        have SW3 : Hid (∀ b (s' : Js), s' = { s with w := true } → SeeC s x.d x.o x.bl e o l b s' → ROut3 w (w3.setCell ⟨j, 1, none⟩ (.bool true)) D j g (fun b s' => SeeQ s x.d x.o x.nn x.bl e o l b s') (.returned (.bool b))) := Lib.hid fun b s' hs' q => by
          subst hs'
          obtain ⟨g1, g2⟩ := P1.out.wear true
          exact rout_stay MID.out.bW MID.out.yy P2.out g1 g2 (QC.out _ _ q)
        have NX3 : Hid (SeeC s x.d x.o x.bl e o l true s2 → ROut3 w (w3.setCell ⟨j, 0, none⟩ (.pointer (some ⟨y, 0, none⟩))) D j g (fun b s' => SeeQ s x.d x.o x.nn x.bl e o l b s') (.returned (.bool true))) := Lib.hid fun q => by
          obtain ⟨g1, g2⟩ := P1.out.next M3.out MID.out.jy HSW.out
          exact rout_next MID.out.bW MID.out.yy P2.out g1 g2 (QC.out _ _ q)
        clear p1 p2 m3 k3 hsw hq z0 z1 z2 ae jw jf k0 SW ST
        cases bo with
        | false =>
          have G := Lib.hid (ST3.out false (seec_not HQ.out (of_decide_eq_false HBO.out)))
          go_wp2_with fail
          go_ret
          exact G.out
        | true =>
        have HO : Hid (only3 o l) := Lib.hid (of_decide_eq_true HBO.out)
        by_cases hz : er = 0
        rotate_left
        · have j0 : (er == 0) = false := beq_eq_false_iff_ne.2 hz
          have HS2 := Lib.hid (chq_no HQ.out hz)
          have HZ := Lib.hid hz
          clear hz
          by_cases hee : e = er
          · subst hee
            have G := Lib.hid (ST3.out true ⟨e, s2, HQ.out, by rw [if_neg (fun q => HZ.out q.1), if_neg (fun q => HZ.out q.1), if_pos (b3_of (e := e) (HO.out))]; exact ⟨rfl, HS2.out.symm⟩⟩)
            go_wp2_with fail
            go_ret
            exact G.out
          · have j1 : (e != er) = true := by simpa using hee
            have j2 : (e == er) = false := beq_eq_false_iff_ne.2 hee
            have G := Lib.hid (ST3.out false ⟨er, s2, HQ.out, by rw [if_neg (fun q => HZ.out q.1), if_neg (fun q => HZ.out q.1), if_neg (fun q => hee q.1)]; exact ⟨rfl, rfl⟩⟩)
            clear hee
            go_wp2_with fail
            go_ret
            exact G.out
        subst hz
        by_cases hw : s.w = true
        · rw [hw] at yw
          have HW := Lib.hid hw
          clear hw
          by_cases he : e = 3
          · subst he
            have ye' : (w3.setCell ⟨j, 1, none⟩ (.bool true)).cell? ⟨w.heap.size + 1, 0, none⟩ = some (.int .i64 3) := by rw [World.cell?_setCell_other _ _ _ _ (by simp)]; exact ye
            have G := Lib.hid (SW3.out true _ rfl ⟨0, s2, HQ.out, by rw [if_pos ⟨rfl, HMU.out, rfl, HO.out⟩]; exact ⟨rfl, rfl⟩⟩)
            go_wp2_with fail
            go_ret
            exact G.out
          · have j1 : (e == 3) = false := beq_eq_false_iff_ne.2 he
            have ye' : (w3.setCell ⟨j, 1, none⟩ (.bool true)).cell? ⟨w.heap.size + 1, 0, none⟩ = some (.int .i64 e) := by rw [World.cell?_setCell_other _ _ _ _ (by simp)]; exact ye
            have G := Lib.hid (SW3.out false s (js_w HW.out).symm ⟨0, s2, HQ.out, by rw [if_neg (fun q => he q.2.2.1), if_pos ⟨rfl, HMU.out, HW.out⟩]; exact ⟨rfl, rfl⟩⟩)
            clear he
            go_wp2_with fail
            go_ret
            exact G.out
        have hw0 : s.w = false := by simpa using hw
        rw [hw0] at yw
        have HW := Lib.hid hw
        clear hw hw0
        by_cases he : e = 3
        · subst he
          have ye' : (w3.setCell ⟨j, 1, none⟩ (.bool true)).cell? ⟨w.heap.size + 1, 0, none⟩ = some (.int .i64 3) := by rw [World.cell?_setCell_other _ _ _ _ (by simp)]; exact ye
          have G := Lib.hid (SW3.out true _ rfl ⟨0, s2, HQ.out, by rw [if_pos ⟨rfl, HMU.out, rfl, HO.out⟩]; exact ⟨rfl, rfl⟩⟩)
          go_wp2_with fail
          go_ret
          exact G.out
        have j3 : (e == 3) = false := beq_eq_false_iff_ne.2 he
        have N1 : Hid (¬ ((0 : Int) = 0 ∧ must x.d x.bl ∧ bare3 e o l 3)) := Lib.hid fun q => he q.2.2.1
        have N2 : Hid (¬ ((0 : Int) = 0 ∧ must x.d x.bl ∧ s.w = true)) := Lib.hid fun q => HW.out q.2.2
        clear he
        by_cases he0 : e = 0
        · subst he0
          have G := Lib.hid (NX3.out ⟨0, s2, HQ.out, by rw [if_neg N1.out, if_neg N2.out, if_pos (b3_of (e := 0) (HO.out))]; exact ⟨rfl, rfl⟩⟩)
          go_wp2_with fail
          go_ret
          exact G.out
        · have j4 : (e == 0) = false := beq_eq_false_iff_ne.2 he0
          have j5 : (e != 0) = true := by simpa using he0
          have G := Lib.hid (ST3.out false ⟨0, s2, HQ.out, by rw [if_neg N1.out, if_neg N2.out, if_neg (fun q => he0 q.1)]; exact ⟨rfl, rfl⟩⟩)
          clear he0
          go_wp2_with fail
          go_ret
          exact G.out
    · have HMU : Hid (must x.d x.bl) := Lib.hid fun q => by omega
      have CC := Lib.hid (rch5 x hd MID.out.md)
      rw [hd] at z0
      have k0 : ∀ w', Below W.heap.size W w' → w'.cell? ⟨w.heap.size, 0, none⟩ = some (.int .i64 5) := fun w' hb => by rw [← hd]; exact (PXH.out w' hb).c0
      clear hd
      go_wp2_with fail
      refine (CC.out).mono ?_; rintro f w3 ⟨er, s2, rfl, hq, hsw, m3, k3⟩
      obtain ⟨p1, p2⟩ := MID.out.past k3 m3.dlt
      have HQ := Lib.hid hq
      have P1 := Lib.hid p1
      have P2 := Lib.hid p2
      have M3 := Lib.hid m3
      have HSW := Lib.hid hsw
      have y0 := k0 w3 p2
      have ye : w3.cell? ⟨w.heap.size + 1, 0, none⟩ = some (.int .i64 e) := (ANH.out w3 p2).c0
      have yw : w3.cell? ⟨j, 1, none⟩ = some (.bool s.w) := p1.c1
      have yf := p1.f 1
      have yf0 := p1.f 0
      have yp := p1.c0
      have ST3 : Hid (∀ b, SeeC s x.d x.o x.bl e o l b s → ROut3 w w3 D j g (fun b s' => SeeQ s x.d x.o x.nn x.bl e o l b s') (.returned (.bool b))) := Lib.hid fun b q => rout_stay MID.out.bW MID.out.yy P2.out P1.out (Chg.refl _ _) (QC.out _ _ q)
      have SW3 : Hid (∀ b (s' : Js), s' = { s with w := true } → SeeC s x.d x.o x.bl e o l b s' → ROut3 w (w3.setCell ⟨j, 1, none⟩ (.bool true)) D j g (fun b s' => SeeQ s x.d x.o x.nn x.bl e o l b s') (.returned (.bool b))) := Lib.hid fun b s' hs' q => by
        subst hs'
        obtain ⟨g1, g2⟩ := P1.out.wear true
        exact rout_stay MID.out.bW MID.out.yy P2.out g1 g2 (QC.out _ _ q)
      have NX3 : Hid (SeeC s x.d x.o x.bl e o l true s2 → ROut3 w (w3.setCell ⟨j, 0, none⟩ (.pointer (some ⟨y, 0, none⟩))) D j g (fun b s' => SeeQ s x.d x.o x.nn x.bl e o l b s') (.returned (.bool true))) := Lib.hid fun q => by
        obtain ⟨g1, g2⟩ := P1.out.next M3.out MID.out.jy HSW.out
        exact rout_next MID.out.bW MID.out.yy P2.out g1 g2 (QC.out _ _ q)
      clear p1 p2 m3 k3 hsw hq z0 z1 z2 ae jw jf k0 SW ST
      cases bo with
      | false =>
        have G := Lib.hid (ST3.out false (seec_not HQ.out (of_decide_eq_false HBO.out)))
        go_wp2_with fail
        go_ret
        exact G.out
      | true =>
      have HO : Hid (only3 o l) := Lib.hid (of_decide_eq_true HBO.out)
      by_cases hz : er = 0
      rotate_left
      · have j0 : (er == 0) = false := beq_eq_false_iff_ne.2 hz
        have HS2 := Lib.hid (chq_no HQ.out hz)
        have HZ := Lib.hid hz
        clear hz
        by_cases hee : e = er
        · subst hee
          have G := Lib.hid (ST3.out true ⟨e, s2, HQ.out, by rw [if_neg (fun q => HZ.out q.1), if_neg (fun q => HZ.out q.1), if_pos (b3_of (e := e) (HO.out))]; exact ⟨rfl, HS2.out.symm⟩⟩)
          go_wp2_with fail
          go_ret
          exact G.out
        · have j1 : (e != er) = true := by simpa using hee
          have j2 : (e == er) = false := beq_eq_false_iff_ne.2 hee
          have G := Lib.hid (ST3.out false ⟨er, s2, HQ.out, by rw [if_neg (fun q => HZ.out q.1), if_neg (fun q => HZ.out q.1), if_neg (fun q => hee q.1)]; exact ⟨rfl, rfl⟩⟩)
          clear hee
          go_wp2_with fail
          go_ret
          exact G.out
      subst hz
      by_cases hw : s.w = true
      · rw [hw] at yw
        have HW := Lib.hid hw
        clear hw
        by_cases he : e = 3
        · subst he
          have ye' : (w3.setCell ⟨j, 1, none⟩ (.bool true)).cell? ⟨w.heap.size + 1, 0, none⟩ = some (.int .i64 3) := by rw [World.cell?_setCell_other _ _ _ _ (by simp)]; exact ye
          have G := Lib.hid (SW3.out true _ rfl ⟨0, s2, HQ.out, by rw [if_pos ⟨rfl, HMU.out, rfl, HO.out⟩]; exact ⟨rfl, rfl⟩⟩)
          go_wp2_with fail
          go_ret
          exact G.out
        · have j1 : (e == 3) = false := beq_eq_false_iff_ne.2 he
          have ye' : (w3.setCell ⟨j, 1, none⟩ (.bool true)).cell? ⟨w.heap.size + 1, 0, none⟩ = some (.int .i64 e) := by rw [World.cell?_setCell_other _ _ _ _ (by simp)]; exact ye
          have G := Lib.hid (SW3.out false s (js_w HW.out).symm ⟨0, s2, HQ.out, by rw [if_neg (fun q => he q.2.2.1), if_pos ⟨rfl, HMU.out, HW.out⟩]; exact ⟨rfl, rfl⟩⟩)
          clear he
          go_wp2_with fail
          go_ret
          exact G.out
      have hw0 : s.w = false := by simpa using hw
      rw [hw0] at yw
      have HW := Lib.hid hw
      clear hw hw0
      by_cases he : e = 3
      · subst he
        have ye' : (w3.setCell ⟨j, 1, none⟩ (.bool true)).cell? ⟨w.heap.size + 1, 0, none⟩ = some (.int .i64 3) := by rw [World.cell?_setCell_other _ _ _ _ (by simp)]; exact ye
        have G := Lib.hid (SW3.out true _ rfl ⟨0, s2, HQ.out, by rw [if_pos ⟨rfl, HMU.out, rfl, HO.out⟩]; exact ⟨rfl, rfl⟩⟩)
        go_wp2_with fail
        go_ret
        exact G.out
      have j3 : (e == 3) = false := beq_eq_false_iff_ne.2 he
      have N1 : Hid (¬ ((0 : Int) = 0 ∧ must x.d x.bl ∧ bare3 e o l 3)) := Lib.hid fun q => he q.2.2.1
      have N2 : Hid (¬ ((0 : Int) = 0 ∧ must x.d x.bl ∧ s.w = true)) := Lib.hid fun q => HW.out q.2.2
      clear he
      by_cases he0 : e = 0
      · subst he0
        have G := Lib.hid (NX3.out ⟨0, s2, HQ.out, by rw [if_neg N1.out, if_neg N2.out, if_pos (b3_of (e := 0) (HO.out))]; exact ⟨rfl, rfl⟩⟩)
        go_wp2_with fail
        go_ret
        exact G.out
      · have j4 : (e == 0) = false := beq_eq_false_iff_ne.2 he0
        have j5 : (e != 0) = true := by simpa using he0
        have G := Lib.hid (ST3.out false ⟨0, s2, HQ.out, by rw [if_neg N1.out, if_neg N2.out, if_neg (fun q => he0 q.1)]; exact ⟨rfl, rfl⟩⟩)
        clear he0
        go_wp2_with fail
        go_ret
        exact G.out
  have i2 : (x.d == 2) = false := beq_eq_false_iff_ne.2 (by omega)
  have i4 : (x.d == 4) = false := beq_eq_false_iff_ne.2 (by omega)
  have i5 : (x.d == 5) = false := beq_eq_false_iff_ne.2 (by omega)
  by_cases hd3 : x.d = 3
  · have C3 := Lib.hid (rmread_is x.o x.nn w2 MID.out.md HL.out.2.1 HL.out.2.2)
    have C4 := Lib.hid (fun w' u (hb : Below W.heap.size W w') (hu : RA byE w' u (rdR s.wl x.o x.nn)) => rsame_is (e := e) (o := o) (e' := refF s.wl x.o x.nn) (o' := 0) (HV.out w' hb) hu)
    have FR := Lib.hid (fun w' (hb : Below w2.heap.size w2 w') => ST.out w' (decide (e = refF s.wl x.o x.nn ∧ o = 0 ∧ l = rdR s.wl x.o x.nn)) hb (by unfold SeeQ; rw [if_neg hd1, if_neg hdc, if_pos hd3]; exact ⟨rfl, rfl⟩))
    have la : ∀ w', Below W.heap.size W w' → (anLoad (.pointer (some ⟨w.heap.size + 1, 0, none⟩))).run Try.prog w' = .ok (.agg (anc e o (.slice q l.length c))) w' := fun w' hb => (ANH.out w' hb).load
    have HLA := Lib.hid la
    rw [hd3] at z0
    clear hd3 hd1 hdc la i1 i2 i4 i5
    generalize decide (e = refF s.wl x.o x.nn ∧ o = 0 ∧ l = rdR s.wl x.o x.nn) = bb at *
    generalize refF s.wl x.o x.nn = er at *
    generalize rdR s.wl x.o x.nn = rl at *
    generalize l.length = L at *
    go_wp2_with fail
    refine (C3.out).mono ?_; rintro f w3 ⟨⟨u, rfl, o3⟩, b3⟩
    have B3 := Lib.hid b3
    have CD := Lib.hid (C4.out _ _ (below_more MID.out.bT b3) o3.ra)
    have la3 := HLA.out w3 (below_more MID.out.bT b3)
    obtain ⟨qu, cu, rfl, _⟩ := ra_shape o3.ra
    clear o3 b3
    go_wp2_with fail
    refine (CD.out).mono ?_; rintro f w4 ⟨rfl, b4⟩
    have G := Lib.hid (FR.out _ (below_more B3.out b4))
    clear b4
    go_wp2_with fail
    go_ret
    exact G.out
  have i3 : (x.d == 3) = false := beq_eq_false_iff_ne.2 hd3
  by_cases hd6 : x.d = 6
  · have C4 := Lib.hid (fun w' (hb : Below w2.heap.size w2 w') => rsame_is (e := e) (o := o) (e' := 0) (o' := s.r) (v' := .slice none 0 0) (l' := []) (HV.out w' (below_more MID.out.bT hb)) (own_nil_a byE 0 w').ra)
    have FR := Lib.hid (fun w' (hb : Below w2.heap.size w2 w') => ST.out w' (decide (e = 0 ∧ o = s.r ∧ l = [])) hb (by unfold SeeQ; rw [if_neg hd1, if_neg hdc, if_neg hd3, if_pos hd6]; exact ⟨rfl, rfl⟩))
    have la : ∀ w', Below w2.heap.size w2 w' → (anLoad (.pointer (some ⟨w.heap.size + 1, 0, none⟩))).run Try.prog w' = .ok (.agg (anc e o (.slice q l.length c))) w' := fun w' hb => (ANH.out w' (below_more MID.out.bT hb)).load
    have lr : ∀ w', Below w2.heap.size w2 w' → w'.cell? ⟨y, 1, none⟩ = some (.int .i64 s.r) := fun w' hb => by
      obtain ⟨mv, mW, _⟩ := (MID.out.md.below hb).rows
      rw [Whole.at_ mW]; rfl
    rw [hd6] at z0
    clear hd6 hd3 hd1 hdc i1 i2 i3 i4 i5
    generalize decide (e = 0 ∧ o = s.r ∧ l = []) = bb at *
    generalize l.length = L at *
    generalize s.r = r at *
    go_wp2
    go_region_held3 (fun w' => Below w2.heap.size w2 w')
      (first | assumption | exact (Below.refl _ _).drew)
      (first
        | (go_at_call 27; refine (C4.out _ (by assumption)).mono ?_; rintro f w3 ⟨rfl, b3⟩
           have B3 : Below w2.heap.size w2 w3 := below_more (by assumption) b3
           have B3' := Lib.hid B3
           clear b3))
    have G := Lib.hid (FR.out _ B3'.out)
    clear la lr
    go_wp2_with fail
    go_ret
    exact G.out
  have i6 : (x.d == 6) = false := beq_eq_false_iff_ne.2 hd6
  have FR := Lib.hid (ST.out w2 (decide (bare3 e o l 1)) (Below.refl _ _) (by unfold SeeQ; rw [if_neg hd1, if_neg hdc, if_neg hd3, if_neg hd6]; exact ⟨rfl, rfl⟩))
  clear hd1 hdc hd3 hd6
  cases bo with
  | false =>
    have G := FR.out
    rw [decide_eq_false (fun q => of_decide_eq_false HBO.out q.2)] at G
    have GG := Lib.hid G
    clear G
    go_wp2_with fail
    go_ret
    exact GG.out
  | true =>
    by_cases he : e = 1
    · subst he
      have G := FR.out
      rw [decide_eq_true (b3_of (e := 1) (of_decide_eq_true HBO.out))] at G
      have GG := Lib.hid G
      clear G
      go_wp2_with fail
      go_ret
      exact GG.out
    · have G := FR.out
      rw [decide_eq_false (fun q => he q.1)] at G
      have GG := Lib.hid G
      have j1 : (e == 1) = false := beq_eq_false_iff_ne.2 he
      clear G he
      go_wp2_with fail
      go_ret
      exact GG.out
end Go.Proofs.Ytkpefnjohdjejaa
