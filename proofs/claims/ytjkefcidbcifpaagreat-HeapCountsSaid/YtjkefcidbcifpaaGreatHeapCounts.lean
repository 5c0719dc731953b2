/-
  Each call that changes lines counts them, one each, in their pages; others count nothing. No conditions.
-/
import Derived.Deep.CutBlock
import Derived.Test.YtjkefcidbcifpaaGreatZmf
namespace Go.Proofs.YtjkefcidbcifpaaGreat.heapCounts
set_option maxRecDepth 100000
open Go.Proofs.YtjkefcidbcifpaaGreat Go.ChangeShapes Go.WideShapes Go.ChangeAt Go.RowKit

set_option maxRecDepth 100000 in
set_option maxHeartbeats 8000000 in
theorem walk (c0 e0 g0 k0 : Int) (l1 : List Px) (v1 : Value) (w : World) (_ : (Lit.int .i64 c0).wf = true ∧ (Lit.int .i64 e0).wf = true ∧ (Lit.int .i64 g0).wf = true ∧ (Lit.int .i64 k0).wf = true) (w1 : RA (opE w) w v1 l1) :
    Calls Tryz.prog 11 #[(Value.agg #[Value.int IntKind.i64 c0, Value.int IntKind.i64 e0, Value.int IntKind.i64 g0, Value.int IntKind.i64 k0]), v1] w fun e w' => e = .returned (.bool true) ∧ Below w.heap.size w w' := by
  obtain ⟨W, hW, H0⟩ := plan_boxed w c0 e0 g0 k0
  have PQ := Lib.hid H0.out.1
  have HB := Lib.hid H0.out.2
  obtain ⟨p1, q1, rfl, _⟩ := ra_shape w1
  have W1 := Lib.hid w1
  have HV1 := Lib.hid (heavy21b l1 [] _ (.slice none 0 0) (ra_below w1 HB.out) (ri_nil W))
  have PW := Lib.hid (plan_raw c0 e0 g0 k0)
  clear w1 H0
  go_enter Tryz.func11, Tryz.ntmps11
  go_wp2_with fail
  refine (HV1.out).mono ?_; rintro e w4 ⟨⟨R, rfl, hr1, hl1⟩, b4⟩
  have B4 := Lib.hid b4
  clear b4
  by_cases h0 : R = 0
  rotate_left
  · have i1 : (R : Int) > 0 := by omega
    have i2 : 0 < R := by omega
    clear h0 hr1 hl1
    go_wp2_with fail
    refine (awake_any _).mono ?_; rintro e w5 ⟨rfl, b5⟩
    have D5 := Lib.hid (below_more HB.out (below_more B4.out b5))
    go_wp2_with fail
    go_ret
    exact ⟨rfl, D5.out⟩
  have L1 := Lib.hid (hl1 (by omega))
  have i1 : ¬ (R : Int) > 0 := by omega
  have i2 : ¬ 0 < R := by omega
  have PQ4 := Lib.hid (PQ.out.below B4.out)
  have a0 := PQ4.out.c0
  have a1 := PQ4.out.c1
  have a2 : w4.cell? ⟨w.heap.size, 2, none⟩ = some (.int .i64 g0) := Whole.at_ PQ4.out 2
  have a3 : w4.cell? ⟨w.heap.size, 3, none⟩ = some (.int .i64 k0) := Whole.at_ PQ4.out 3
  clear h0 hr1 hl1 HV1
  go_wp2_with fail
  refine (PW.out _).mono ?_; rintro e w5 ⟨⟨N, P, per, b, rfl, hN⟩, b5⟩
  have HN := Lib.hid hN
  have PQ5 := Lib.hid (PQ4.out.below b5)
  have B5 := Lib.hid (below_more HB.out (below_more B4.out b5))
  clear b5 hN a0 a1 a2 a3
  have hst := PQ5.out.pstore (l' := (N : Int)) (s' := (P : Int)) (p' := (per : Int)) (b' := (b : Int))
  have HV := Lib.hid (And.intro (PQ5.out.pput (l' := (N : Int)) (s' := (P : Int)) (p' := (per : Int)) (b' := (b : Int))) (show Below w.heap.size w (w5.setRow w.heap.size #[Value.int IntKind.i64 (N : Int), Value.int IntKind.i64 (P : Int), Value.int IntKind.i64 (per : Int), Value.int IntKind.i64 (b : Int)]) from below_row B5.out (Nat.le_refl _)))
  obtain ⟨V, hV⟩ : ∃ V, w5.setRow w.heap.size #[Value.int IntKind.i64 (N : Int), Value.int IntKind.i64 (P : Int), Value.int IntKind.i64 (per : Int), Value.int IntKind.i64 (b : Int)] = V := ⟨_, rfl⟩
  rw [hV] at hst HV
  have lV := HV.out.1.load
  have MD := Lib.hid (made_is (w := V) (N := N) (P := P) (per := per) (b := b) (v := .slice none 0 0) (lim := []) (by have := HN.out; unfold MayN; omega) (ri_nil V))
  go_wp2_with fail
  refine (MD.out).mono ?_; rintro e w6 ⟨b6, ⟨a, S, ha, rfl, hnew, hp, hi, hw, hco, hfr, hct⟩ | ⟨hl, _⟩⟩
  rotate_left
  · exact absurd rfl hl
  have BA0 := Lib.hid (below_more HV.out.2 b6)
  have H0 := Lib.hid (show Hd w6 a S 3 (firstL (8 * N : Nat)) 0 from ⟨hp, hi, hfr rfl, hw⟩)
  have LO : Hid (∀ k ∈ a.D, w.heap.size ≤ k) := Lib.hid (by
    have := HV.out.2.size
    intro k hk
    simp only [Ha.D, List.mem_cons, List.not_mem_nil, or_false] at hk
    rcases hk with rfl | rfl | rfl | rfl <;> omega)
  clear b6 hp hi hco hfr hw hct hnew ha lV hst MD
  have HL1 := Lib.hid L1.out.len
  go_wp2
  go_loopw [42] (fun i wr => ∃ k : Nat, k ≤ l1.length ∧ i = .int .i64 k ∧ Hid (∃ S X r, Hd wr a S (3 + k) X r ∧ Below w.heap.size w wr)) (fun i _ => l1.length - (intOf i).toNat)
  case atStart => exact ⟨0, Nat.zero_le _, rfl, Lib.hid ⟨_, _, _, H0.out, BA0.out⟩⟩
  case round =>
    clear H0 BA0
    obtain ⟨k, hk, rfl, H⟩ := hrel
    by_cases hlt : k < l1.length
    · obtain ⟨S1, X1, r1, T, hB⟩ := H.out
      obtain ⟨bb, off, hpp, _, hx⟩ := px_at (ra_below W1.out hB) (by omega)
      subst hpp
      obtain ⟨hld, hwf⟩ := hx k hlt
      have hbl := L1.out.bl k hlt
      have i0 : (0 : Int) ≤ (k : Int) := by omega
      have i1 : (k : Int) < (l1.length : Int) := by omega
      have i3 : ¬ (k : Int) < 0 := by omega
      have i4 : IntKind.i64.wrap ((k : Int) + 1) = ((k + 1 : Nat) : Int) := by rw [show (k : Int) + 1 = ((k + 1 : Nat) : Int) by omega]; exact i64_nat _ (by have := HL1.out; omega)
      have HK := Lib.hid hlt
      have hK3 : 3 + k < 1000 := by have := HL1.out; omega
      clear hx hk hlt
      generalize l1.getD k default = x at *
      obtain ⟨W9, hW9, hst, HB9⟩ := px_boxed wr x hwf.one
      have T9 := Lib.hid (T.below HB9.out.2)
      have B9 := Lib.hid (below_more hB HB9.out.2)
      have PX9 := Lib.hid (px_ok hwf B9.out (by omega))
      have XF : Hid (x.bl = [] ∨ ∀ j, x.v.ownBlock = some j → j ∉ a.D) := Lib.hid (by
        rcases ra_low hwf.rv with q | q
        · exact .inl q
        · refine .inr fun j hj m => ?_
          have := q j hj
          have := LO.out j m
          omega)
      have C1 := Lib.hid (hWords_is T9.out.hp.hb T9.out.hi.num T9.out.hi.hc.lg T9.out.hi.live T9.out.hi.hc.has)
      have C2 := Lib.hid (fun w' (hb : Below W9.heap.size W9 w') => hcnt_is (T9.out.hp.below hb) (by have := T9.out.hi.cn; have := T9.out.hi.num.N; omega))
      have AX := Lib.hid HB9.out.1
      clear T hwf hbl H hB
      go_wp2_with fail
      refine (C1.out).mono ?_; rintro e wa ⟨⟨va, rfl, oa⟩, ba⟩
      have BA := Lib.hid ba
      have OA := Lib.hid oa
      obtain ⟨qa, na, rfl⟩ := oa.shape
      clear ba oa
      go_wp2_with fail
      refine (C2.out _ BA.out).mono ?_; rintro e wb ⟨⟨vb, rfl, ob⟩, bb2⟩
      have BB := Lib.hid (below_more BA.out bb2)
      have OA2 := Lib.hid (OA.out.below bb2)
      have OB := Lib.hid ob
      obtain ⟨qb, nb, rfl, _⟩ := ob.ri
      have c0x := (AX.out.below BB.out).c0
      have c1x := (AX.out.below BB.out).c1
      have c2x := (AX.out.below BB.out).c2
      have c4x := (AX.out.below BB.out).c4
      clear bb2 ob C1 C2
      go_upto_block 2 with fail
      go_cut [12, 13, 42] from 42 to 141 (fun v12 v13 v42 wx => ∃ err E, v13 = .int .i64 err ∧ v42 = .int .i64 (k : Int) ∧ Hid (OwnA edE wb.heap.size wx v12 E ∧ Below wb.heap.size wb wx ∧ (err = 0 → E.length ≤ 4000) ∧ (∀ pl, PlanOf X1 r1 S1.ct.ints x.d x.o x.nn x.bl pl → LinesOf pl err E)))
      case first =>
        by_cases d1 : x.d = 1
        · have CA := Lib.hid (ral_is X1 x.nn S1.ct.ints (.slice qa X1.length na) (.slice qb S1.ct.ints.length nb) wb OA2.out.ru (by have := T9.out.hi.len.1; have := T9.out.hi.num.N; omega) T9.out.hi.hc.ok OB.out.ri)
          have HE : Hid (∀ pl, PlanOf X1 r1 S1.ct.ints x.d x.o x.nn x.bl pl → LinesOf pl (alR X1 x.nn S1.ct.ints).2.2 (alR X1 x.nn S1.ct.ints).1) := Lib.hid fun pl h => by
            rw [d1] at h
            have e : pl = plA X1 r1 S1.ct.ints x.nn := h
            rw [e]; exact lines_alloc
          have HLN : Hid ((alR X1 x.nn S1.ct.ints).2.2 = 0 → (alR X1 x.nn S1.ct.ints).1.length ≤ 4000) := Lib.hid fun h0 => alR_len T9.out.hi.len.1 T9.out.hi.hc.snd T9.out.hi.hc.ok h0
          have q1 : (x.d == 1) = true := by rw [d1]; rfl
          clear d1
          go_wp2_with fail
          refine (CA.out).mono ?_; rintro e wx ⟨⟨vx, rfl, ox⟩, bx⟩
          have F := Lib.hid (And.intro ox (And.intro bx (And.intro HLN.out HE.out)))
          clear ox bx
          go_wp2_with fail
          go_meet
          exact ⟨_, _, rfl, rfl, F⟩
        have q1 : (x.d == 1) = false := beq_eq_false_iff_ne.2 d1
        by_cases d2 : x.d = 2
        · have CA := Lib.hid (rfr_is X1 x.o (.slice qa X1.length na) wb OA2.out.ru (by have := T9.out.hi.len.1; have := T9.out.hi.num.N; omega) T9.out.hi.hc.ok)
          have HE : Hid (∀ pl, PlanOf X1 r1 S1.ct.ints x.d x.o x.nn x.bl pl → LinesOf pl (frR X1 x.o).2 (frR X1 x.o).1) := Lib.hid fun pl h => by
            rw [d2] at h
            have e : pl = plF X1 r1 x.o := h
            rw [e]; exact lines_free
          have q2 : (x.d == 2) = true := by rw [d2]; rfl
          clear d1 d2
          go_wp2_with fail
          refine (CA.out).mono ?_; rintro e wx ⟨⟨vx, rfl, ox⟩, bx⟩
          have F := Lib.hid (And.intro ox (And.intro bx (And.intro (fun (_ : (frR X1 x.o).2 = 0) => frR_len X1 x.o) HE.out)))
          clear ox bx
          go_wp2_with fail
          go_meet
          exact ⟨_, _, rfl, rfl, F⟩
        have q2 : (x.d == 2) = false := beq_eq_false_iff_ne.2 d2
        by_cases d4 : x.d = 4
        · have hxv : RA byE wb x.v x.bl := ra_below PX9.out.v BB.out
          have CA := Lib.hid (rwr_is X1 x.bl x.o (.slice qa X1.length na) x.v wb OA2.out.ru hxv (by have := T9.out.hi.len.1; have := T9.out.hi.num.N; omega) PX9.out.len T9.out.hi.hc.ok PX9.out.o)
          have HE : Hid (∀ L, WrT X1 x.bl x.o L → ∀ pl, PlanOf X1 r1 S1.ct.ints x.d x.o x.nn x.bl pl → LinesOf pl (refF X1 x.o x.bl.length) L) := Lib.hid fun L hL pl h => by
            rw [d4] at h
            have e : ∃ M, WrT X1 x.bl x.o M ∧ pl = plW X1 r1 x.o x.bl M := h
            obtain ⟨M, hM, e⟩ := e
            rw [e, hL.one hM]; exact lines_write hM
          have q4 : (x.d == 4) = true := by rw [d4]; rfl
          clear d1 d2 d4 hxv
          go_wp2_with fail
          refine (CA.out).mono ?_; rintro e wx ⟨⟨vx, L, rfl, ox, hL⟩, bx⟩
          have F := Lib.hid (And.intro ox (And.intro bx (And.intro (fun (_ : refF X1 x.o x.bl.length = 0) => wrT_len_h hL) (HE.out L hL))))
          clear ox bx hL
          go_wp2_with fail
          go_meet
          exact ⟨_, _, rfl, rfl, F⟩
        have q4 : (x.d == 4) = false := beq_eq_false_iff_ne.2 d4
        have F : Hid (OwnA edE wb.heap.size wb (.slice none 0 0) [] ∧ Below wb.heap.size wb wb ∧ ((1 : Int) = 0 → ([] : List Ed).length ≤ 4000) ∧ (∀ pl, PlanOf X1 r1 S1.ct.ints x.d x.o x.nn x.bl pl → LinesOf pl 1 [])) := Lib.hid ⟨own_nil_a edE _ wb, Below.refl _ _, fun q => (by cases q), fun pl h => lines_other d1 d2 d4 h⟩
        clear d1 d2 d4
        go_wp2_with fail
        go_meet
        exact ⟨_, _, rfl, rfl, F⟩
      case rest =>
        obtain ⟨err, E, rfl, rfl, HX⟩ := hcut
        have B10 := Lib.hid (below_more BB.out HX.out.2.1)
        have T10 := Lib.hid (T9.out.below B10.out)
        have AX10 := Lib.hid (AX.out.below B10.out)
        have ldx : (pxLoad (.pointer (some ⟨wr.heap.size, 0, none⟩))).run Tryz.prog wc = .ok (.agg (pxc x)) wc := run_pxLoad fun j u hj => by rw [Whole.at_ AX10.out, Nat.zero_add, ← hj]; simp [pxc]
        have CD := Lib.hid (chain_cnt x T10.out hK3 (PX9.out.below B10.out) HX.out.2.2.2)
        have RE := Lib.hid HX.out.1
        have HLE := Lib.hid HX.out.2.2.1
        obtain ⟨p12, c12, rfl, _⟩ := HX.out.1.shape
        have OB10 := Lib.hid (OwnI.below_h OB.out HX.out.2.1)
        have BW := Lib.hid (below_more B9.out B10.out)
        clear HX c0x c1x c2x c4x
        go_wp2_with fail
        refine (CD.out).mono ?_; rintro e wd ⟨pl, v, S', rfl, hv, hd, hc, hn, hcnt⟩
        have hv1 := ra_one hv.ra
        obtain ⟨We, hWe, hst14, HA14⟩ := an_boxed wd pl.e pl.off hv1
        have HDe := Lib.hid (hd.below HA14.out.2)
        have BD := Lib.hid (below_more (hc.below BW.out BW.out.size LO.out) HA14.out.2)
        have DLT : Hid (∀ j ∈ a.D, j < W9.heap.size) := Lib.hid T9.out.hp.dlt
        have OBe := Lib.hid (OwnI.below_h (own_chg_h OB10.out hc (fun j hj => by have := DLT.out j hj; have := BA.out.size; omega)) HA14.out.2)
        have OEe := Lib.hid ((RE.out.chg hc (fun g hg hm => by have h1 := (RE.out.lt g hg).1; have h2 := DLT.out g hm; have := BB.out.size; omega)).below HA14.out.2)
        obtain ⟨n, hnn⟩ : ∃ n, S1.ct.ints.length = n := ⟨_, rfl⟩
        have HN : Hid (S'.ct.ints.length = n ∧ S1.ct.ints.length = n ∧ S1.ct.n = n ∧ 1 ≤ n ∧ n ≤ 16) := Lib.hid (by
          have e1 : S1.ct.ints.length = S1.ct.n := byF_length _ _
          have e2 : S'.ct.ints.length = S'.ct.n := byF_length _ _
          have h1 := T9.out.hi.cn
          have h2 := T9.out.hi.num.N
          omega)
        have IN0 : Hid (∀ q, 0 ≤ S1.ct.ints.getD q 0 ∧ S1.ct.ints.getD q 0 ≤ ((14000 : Nat) : Int)) := Lib.hid (ctints_in fun q hq => by have := T9.out.hi.cm q hq; omega)
        have HCNT := Lib.hid hcnt
        have A14 := Lib.hid HA14.out.1
        rw [hnn] at OBe ⊢
        clear hv hd hc hn hcnt hv1 CD ldx T9 T10 OB OB10 OA OA2 RE PX9 XF AX AX10 B9 B10 BA BB BW DLT hnn
        obtain ⟨C0, hC0⟩ : ∃ C0, S1.ct.ints = C0 := ⟨_, rfl⟩
        rw [hC0] at OBe HN IN0 HCNT
        have O22 := Lib.hid (show OwnI We.heap.size (We.alloc (.cells #[] 3)) (.slice (some ⟨We.heap.size, 0, none⟩) 0 0) [] from own_lit We [] (Nat.zero_le _))
        have E22 : Hid (Below We.heap.size We (We.alloc (.cells #[] 3))) := Lib.hid (bal (Below.refl _ _))
        have R22 := Lib.hid (OwnI.below_h OBe.out E22.out).ri
        go_wp2_with (at_builtin; refine list_app_int (o := ⟨some 91, _, _, _, _, _⟩) rfl (.tmp 89) (.tmp 90) rfl We.heap.size _ [] rfl O22.out _ C0 rfl R22.out (by have := HN.out; simp; omega) E22.out.size ?_)
        intro vq wq oq gq0 _
        have oq : OwnI We.heap.size wq vq C0 := oq
        obtain ⟨gq, cq, rfl, hg1, hg2⟩ := hi_block oq (by have := HN.out; omega)
        have BEq := Lib.hid (below_app_i E22.out E22.out.size O22.out gq0)
        have OW := Lib.hid oq
        have GQ := Lib.hid (And.intro hg1 hg2)
        have OEq := Lib.hid (OEe.out.below BEq.out)
        have a14 := (A14.out.below BEq.out).c0
        have hCn : C0.length = n := HN.out.2.1
        rw [hCn] at OW ⊢
        clear oq gq0 hg1 hg2 O22 E22 R22 OBe OEe hCn hC0
        rcases HCNT.out with ⟨g1, g2, g3, g4⟩ | ⟨g1, g3⟩
        · clear HCNT
          -- the lines of the edits
          have CE := Lib.hid (rlines_is E (.slice p12 E.length c12) wq OEq.out.ra (HLE.out g1))
          have L1e : Hid (∀ l, IsL E l → l = lnsF E) := Lib.hid fun l h => h.one (lnsF_is E)
          have j1 : (err == 0) = true := beq_iff_eq.2 g1
          have j2 : (pl.e == 0) = true := beq_iff_eq.2 g2
          have HG := Lib.hid (And.intro g3 g4)
          clear g1 g2 g3 g4
          go_wp2_with fail
          refine (CE.out).mono ?_; rintro e wl ⟨⟨vl, ll, rfl, ol, hll⟩, bl⟩
          obtain rfl := L1e.out ll hll
          have OL := Lib.hid ol
          have BL := Lib.hid bl
          have LLen : Hid ((lnsF E).length ≤ 4000) := Lib.hid (Nat.le_trans (lines_are E).2 (HLE.out (beq_iff_eq.1 j1)))
          have LP : Hid (∀ j, j < (lnsF E).length → ∃ z : Nat, (lnsF E).getD j 0 = (z : Int) ∧ z / 4 < n) := Lib.hid fun j hj => by
            refine ⟨((lnsF E).getD j 0).toNat, by have := lnsF_pos hj; omega, ?_⟩
            have hm : ((lnsF E).getD j 0).toNat / 4 ∈ pgs (lnsF E) := List.mem_map.2 ⟨_, by rw [List.getD_eq_getElem?_getD, List.getElem?_eq_getElem hj]; exact List.getElem_mem hj, rfl⟩
            have := HG.out.2 _ hm
            have := HN.out
            omega
          obtain ⟨ql, cl, rfl, _⟩ := ol.ri
          clear ol bl hll CE L1e
          obtain ⟨L, hL⟩ : ∃ L, lnsF E = L := ⟨_, rfl⟩
          rw [hL] at OL LLen LP HG ⊢
          clear hL
          have BEl := Lib.hid (below_more BEq.out BL.out)
          have OWl := Lib.hid (OwnI.below_h OW.out BL.out)
          have IN := Lib.hid IN0.out
          go_wp2
          go_loopw [102] (fun i wr => ∃ j : Nat, j ≤ L.length ∧ i = .int .i64 j ∧ Hid (OwnI We.heap.size wr (.slice (some ⟨gq, 0, none⟩) n cq) (bumps C0 (L.take j)) ∧ Chg [gq] wl wr ∧ Below We.heap.size We wr)) (fun i _ => L.length - (intOf i).toNat)
          case atStart => exact ⟨0, Nat.zero_le _, rfl, Lib.hid ⟨OWl.out, Chg.refl _ _, BEl.out⟩⟩
          case round =>
            obtain ⟨j, hj, rfl, HJ⟩ := hrel
            by_cases hlt : j < L.length
            · have b0 : (0 : Int) ≤ (j : Int) := by omega
              have b1 : (j : Int) < (L.length : Int) := by omega
              have b3 : ¬ (j : Int) < 0 := by omega
              have b4 : IntKind.i64.wrap ((j : Int) + 1) = ((j + 1 : Nat) : Int) := by rw [show (j : Int) + 1 = ((j + 1 : Nat) : Int) by omega]; exact i64_nat _ (by have := LLen.out; omega)
              have KJ := Lib.hid hlt
              have OLj := Lib.hid (own_chg_h OL.out HJ.out.2.1 (fun k hk => by rw [List.mem_singleton.1 hk]; exact GQ.out.2))
              obtain ⟨gl, cl', hql, _, _⟩ := hi_block OLj.out (by omega)
              cases hql
              have d1 := (hi_cells rfl OLj.out hlt).1
              obtain ⟨z, hz, hzn⟩ := LP.out j hlt
              rw [hz] at d1
              have hS : L.take (j + 1) = L.take j ++ [(z : Int)] := by rw [take_snoc_h hlt, hz]
              have hB : bumps C0 (L.take (j + 1)) = (bumps C0 (L.take j)).set (z / 4) ((bumps C0 (L.take j)).getD (z / 4) 0 + 1) := by rw [hS, bumps_snoc, Int.toNat_natCast]
              have hbl : (bumps C0 (L.take j)).length = n := (bumps_len _ _).trans HN.out.2.1
              obtain ⟨Q, hQ⟩ : ∃ Q, z / 4 = Q := ⟨_, rfl⟩
              rw [hQ] at hB hzn
              have b5 : (z : Int) ≥ 0 := by omega
              have b6 : IntKind.i64.wrap ((z : Int) / 4) = (Q : Int) := by rw [show (z : Int) / 4 = (Q : Int) by omega]; exact i64_nat _ (by have := HN.out; omega)
              have b7 : ¬ (n : Int) ≤ (Q : Int) := by omega
              have b8 : (0 : Int) ≤ (Q : Int) := by omega
              have b9 : ¬ (Q : Int) < 0 := by omega
              have b10 : (Q : Int) < (n : Int) := by omega
              obtain ⟨d2, d3⟩ := hi_cells hbl.symm HJ.out.1 (j := Q) (by omega)
              obtain ⟨u, hu⟩ : ∃ u : Nat, (bumps C0 (L.take j)).getD Q 0 = (u : Int) ∧ u ≤ 20000 := by
                have := bumps_in (L.take j) C0 _ IN.out Q
                have h2 : (L.take j).length ≤ 4000 := by have := LLen.out; rw [List.length_take]; omega
                exact ⟨((bumps C0 (L.take j)).getD Q 0).toNat, by omega, by omega⟩
              have b11 : IntKind.i64.wrap ((u : Int) + 1) = ((u + 1 : Nat) : Int) := by rw [show (u : Int) + 1 = ((u + 1 : Nat) : Int) by omega]; exact i64_nat _ (by have := hu.2; omega)
              rw [hu.1] at d2 hB
              have HJ2 : Hid (OwnI We.heap.size (wr.setCell ⟨gq, Q, none⟩ (.int .i64 ((u + 1 : Nat) : Int))) (.slice (some ⟨gq, 0, none⟩) n cq) (bumps C0 (L.take (j + 1))) ∧ Chg [gq] wl (wr.setCell ⟨gq, Q, none⟩ (.int .i64 ((u + 1 : Nat) : Int))) ∧ Below We.heap.size We (wr.setCell ⟨gq, Q, none⟩ (.int .i64 ((u + 1 : Nat) : Int)))) := Lib.hid (by
                rw [hB, show (u : Int) + 1 = ((u + 1 : Nat) : Int) by omega]
                exact ⟨hi_stored hbl.symm HJ.out.1 Q _, HJ.out.2.1.setCell (p := ⟨gq, Q, none⟩) (.inl (List.mem_singleton.2 rfl)) _, HJ.out.2.2.setCell (p := ⟨gq, Q, none⟩) GQ.out.1 _⟩)
              clear hj hlt hz hS hB hbl hQ hu hzn HJ
              go_wp2
              go_roundw
              case rel => exact ⟨j + 1, by have := KJ.out; omega, by go_num, HJ2⟩
              case measure => have := KJ.out; simp [intOf]; omega
            · obtain rfl : j = L.length := by omega
              obtain ⟨wt, hwt⟩ : ∃ wt, wt = wr := ⟨_, rfl⟩
              subst hwt
              have HT : Hid (Hd wt a S' (3 + k + 1) pl.X pl.r ∧ OwnI We.heap.size wt (.slice (some ⟨gq, 0, none⟩) n cq) S'.ct.ints ∧ Below w.heap.size w wt) := Lib.hid ⟨HDe.out.below HJ.out.2.2, by have h := HJ.out.1; rw [List.take_length] at h; rw [HG.out.1]; exact h, below_more BD.out HJ.out.2.2⟩
              clear hj hlt HJ OL OWl BEl LP OW
              have CT := Lib.hid (fun w' (hb : Below wt.heap.size wt w') => hcnt_is (HT.out.1.hp.below hb) (by have := HT.out.1.hi.cn; have := HT.out.1.hi.num.N; omega))
              go_wp2_with fail
              refine (CT.out _ (Below.refl _ _)).mono ?_; rintro e wu ⟨⟨vu, rfl, ou⟩, bu⟩
              have BU := Lib.hid (below_more HT.out.2.2 bu)
              have HU := Lib.hid (HT.out.1.below bu)
              have OW := Lib.hid (OwnI.below_h HT.out.2.1 bu)
              obtain ⟨gu, cu, rfl, _, _⟩ := hi_block ou (by have := HN.out; omega)
              have hnl : S'.ct.ints.length = n := HN.out.1
              have OU := Lib.hid ou
              rw [hnl] at OU ⊢
              clear ou bu CT
              go_wp2
              go_loopw [128] (fun i wr => ∃ j : Nat, j ≤ n ∧ i = .int .i64 j ∧ Hid (Below wu.heap.size wu wr)) (fun i _ => n - (intOf i).toNat)
              case atStart => exact ⟨0, Nat.zero_le _, rfl, Lib.hid (Below.refl _ _)⟩
              case round =>
                obtain ⟨j, hj, rfl, HJ⟩ := hrel
                by_cases hlt : j < n
                · have b0 : (0 : Int) ≤ (j : Int) := by omega
                  have b1 : (j : Int) < (n : Int) := by omega
                  have b3 : ¬ (j : Int) < 0 := by omega
                  have b4 : IntKind.i64.wrap ((j : Int) + 1) = ((j + 1 : Nat) : Int) := by rw [show (j : Int) + 1 = ((j + 1 : Nat) : Int) by omega]; exact i64_nat _ (by have := HN.out; omega)
                  have KJ := Lib.hid hlt
                  have d1 := (hi_cells hnl.symm (OwnI.below_h OU.out HJ.out) (j := j) (by omega)).1
                  have d2 := (hi_cells hnl.symm (OwnI.below_h OW.out HJ.out) (j := j) (by omega)).1
                  clear hj hlt
                  generalize S'.ct.ints.getD j 0 = u at *
                  have hy : (u != u) = false := by simp
                  go_wp2_with fail
                  go_quiet (fail)
                  have HJ2 : Hid (Below wu.heap.size wu (wr.drewN nq)) := Lib.hid (below_drewN HJ.out nq)
                  clear d1 d2
                  generalize wr.drewN nq = wr2 at *
                  go_wp2
                  go_roundw
                  case rel => exact ⟨j + 1, by have := KJ.out; omega, by go_num, HJ2⟩
                  case measure => have := KJ.out; simp [intOf]; omega
                · obtain rfl : j = n := by omega
                  have HF : Hid (∃ S X r, Hd wr a S (3 + (k + 1)) X r ∧ Below w.heap.size w wr) := Lib.hid ⟨S', pl.X, pl.r, HU.out.below HJ.out, below_more BU.out HJ.out⟩
                  clear hj hlt
                  go_wp2
                  go_roundw
                  case rel => exact ⟨k + 1, by have := HK.out; omega, by go_num, HF⟩
                  case measure => have := HK.out; simp [intOf]; omega
        · clear HCNT
          have hints : S'.ct.ints = C0 := g3
          have HT : Hid (Hd wq a S' (3 + k + 1) pl.X pl.r ∧ OwnI We.heap.size wq (.slice (some ⟨gq, 0, none⟩) n cq) S'.ct.ints ∧ Below w.heap.size w wq) := Lib.hid ⟨HDe.out.below BEq.out, by rw [hints]; exact OW.out, below_more BD.out BEq.out⟩
          obtain ⟨wt, hwt⟩ : ∃ wt, wt = wq := ⟨_, rfl⟩
          subst hwt
          clear OW hints g3 OEq
          by_cases g4 : err = 0
          · have g5 : pl.e ≠ 0 := fun q => g1 ⟨g4, q⟩
            have j1 : (err == 0) = true := beq_iff_eq.2 g4
            have j2 : (pl.e == 0) = false := beq_eq_false_iff_ne.2 g5
            clear g1 g4 g5
            have CT := Lib.hid (fun w' (hb : Below wt.heap.size wt w') => hcnt_is (HT.out.1.hp.below hb) (by have := HT.out.1.hi.cn; have := HT.out.1.hi.num.N; omega))
            go_wp2_with fail
            refine (CT.out _ (Below.refl _ _)).mono ?_; rintro e wu ⟨⟨vu, rfl, ou⟩, bu⟩
            have BU := Lib.hid (below_more HT.out.2.2 bu)
            have HU := Lib.hid (HT.out.1.below bu)
            have OW := Lib.hid (OwnI.below_h HT.out.2.1 bu)
            obtain ⟨gu, cu, rfl, _, _⟩ := hi_block ou (by have := HN.out; omega)
            have hnl : S'.ct.ints.length = n := HN.out.1
            have OU := Lib.hid ou
            rw [hnl] at OU ⊢
            clear ou bu CT
            go_wp2
            go_loopw [128] (fun i wr => ∃ j : Nat, j ≤ n ∧ i = .int .i64 j ∧ Hid (Below wu.heap.size wu wr)) (fun i _ => n - (intOf i).toNat)
            case atStart => exact ⟨0, Nat.zero_le _, rfl, Lib.hid (Below.refl _ _)⟩
            case round =>
              obtain ⟨j, hj, rfl, HJ⟩ := hrel
              by_cases hlt : j < n
              · have b0 : (0 : Int) ≤ (j : Int) := by omega
                have b1 : (j : Int) < (n : Int) := by omega
                have b3 : ¬ (j : Int) < 0 := by omega
                have b4 : IntKind.i64.wrap ((j : Int) + 1) = ((j + 1 : Nat) : Int) := by rw [show (j : Int) + 1 = ((j + 1 : Nat) : Int) by omega]; exact i64_nat _ (by have := HN.out; omega)
                have KJ := Lib.hid hlt
                have d1 := (hi_cells hnl.symm (OwnI.below_h OU.out HJ.out) (j := j) (by omega)).1
                have d2 := (hi_cells hnl.symm (OwnI.below_h OW.out HJ.out) (j := j) (by omega)).1
                clear hj hlt
                generalize S'.ct.ints.getD j 0 = u at *
                have hy : (u != u) = false := by simp
                go_wp2_with fail
                go_quiet (fail)
                have HJ2 : Hid (Below wu.heap.size wu (wr.drewN nq)) := Lib.hid (below_drewN HJ.out nq)
                clear d1 d2
                generalize wr.drewN nq = wr2 at *
                go_wp2
                go_roundw
                case rel => exact ⟨j + 1, by have := KJ.out; omega, by go_num, HJ2⟩
                case measure => have := KJ.out; simp [intOf]; omega
              · obtain rfl : j = n := by omega
                have HF : Hid (∃ S X r, Hd wr a S (3 + (k + 1)) X r ∧ Below w.heap.size w wr) := Lib.hid ⟨S', pl.X, pl.r, HU.out.below HJ.out, below_more BU.out HJ.out⟩
                clear hj hlt
                go_wp2
                go_roundw
                case rel => exact ⟨k + 1, by have := HK.out; omega, by go_num, HF⟩
                case measure => have := HK.out; simp [intOf]; omega
          · have j1 : (err == 0) = false := beq_eq_false_iff_ne.2 g4
            clear g1 g4
            have CT := Lib.hid (fun w' (hb : Below wt.heap.size wt w') => hcnt_is (HT.out.1.hp.below hb) (by have := HT.out.1.hi.cn; have := HT.out.1.hi.num.N; omega))
            go_wp2_with fail
            refine (CT.out _ (Below.refl _ _)).mono ?_; rintro e wu ⟨⟨vu, rfl, ou⟩, bu⟩
            have BU := Lib.hid (below_more HT.out.2.2 bu)
            have HU := Lib.hid (HT.out.1.below bu)
            have OW := Lib.hid (OwnI.below_h HT.out.2.1 bu)
            obtain ⟨gu, cu, rfl, _, _⟩ := hi_block ou (by have := HN.out; omega)
            have hnl : S'.ct.ints.length = n := HN.out.1
            have OU := Lib.hid ou
            rw [hnl] at OU ⊢
            clear ou bu CT
            go_wp2
            go_loopw [128] (fun i wr => ∃ j : Nat, j ≤ n ∧ i = .int .i64 j ∧ Hid (Below wu.heap.size wu wr)) (fun i _ => n - (intOf i).toNat)
            case atStart => exact ⟨0, Nat.zero_le _, rfl, Lib.hid (Below.refl _ _)⟩
            case round =>
              obtain ⟨j, hj, rfl, HJ⟩ := hrel
              by_cases hlt : j < n
              · have b0 : (0 : Int) ≤ (j : Int) := by omega
                have b1 : (j : Int) < (n : Int) := by omega
                have b3 : ¬ (j : Int) < 0 := by omega
                have b4 : IntKind.i64.wrap ((j : Int) + 1) = ((j + 1 : Nat) : Int) := by rw [show (j : Int) + 1 = ((j + 1 : Nat) : Int) by omega]; exact i64_nat _ (by have := HN.out; omega)
                have KJ := Lib.hid hlt
                have d1 := (hi_cells hnl.symm (OwnI.below_h OU.out HJ.out) (j := j) (by omega)).1
                have d2 := (hi_cells hnl.symm (OwnI.below_h OW.out HJ.out) (j := j) (by omega)).1
                clear hj hlt
                generalize S'.ct.ints.getD j 0 = u at *
                have hy : (u != u) = false := by simp
                go_wp2_with fail
                go_quiet (fail)
                have HJ2 : Hid (Below wu.heap.size wu (wr.drewN nq)) := Lib.hid (below_drewN HJ.out nq)
                clear d1 d2
                generalize wr.drewN nq = wr2 at *
                go_wp2
                go_roundw
                case rel => exact ⟨j + 1, by have := KJ.out; omega, by go_num, HJ2⟩
                case measure => have := KJ.out; simp [intOf]; omega
              · obtain rfl : j = n := by omega
                have HF : Hid (∃ S X r, Hd wr a S (3 + (k + 1)) X r ∧ Below w.heap.size w wr) := Lib.hid ⟨S', pl.X, pl.r, HU.out.below HJ.out, below_more BU.out HJ.out⟩
                clear hj hlt
                go_wp2
                go_roundw
                case rel => exact ⟨k + 1, by have := HK.out; omega, by go_num, HF⟩
                case measure => have := HK.out; simp [intOf]; omega
    · obtain rfl : k = l1.length := by omega
      obtain ⟨S1, X1, r1, T, hB⟩ := H.out
      have BE := Lib.hid hB
      clear T hB H hk hlt
      go_wp2_with fail
      refine (awake_any _).mono ?_; rintro e w13 ⟨rfl, b13⟩
      have D13 := Lib.hid (below_more BE.out b13)
      go_wp2_with fail
      go_ret
      exact ⟨rfl, D13.out⟩
set_option maxRecDepth 100000 in
theorem lifted (os : Os) (started : os.Started) (H : Type) (enc : TypeId × Value → H) :
    ReturnsInHanded {} Tryz.checked os 11 .any (Rows.heapCountsSpec.pre6 enc Tryz.prog Tryz.f11 Rows.heapCountsRow.domain false) (Rows.heapCountsSpec.post enc Tryz.prog Tryz.f11 false true false false) := by
  refine returnsInHanded_of_change (C := Tryz.checked) own started (by kernel_rfl) Tryz.func11
    (ChangeSpec.witness6 (enc := enc) (C := Tryz.checked) false ⟨#[], #[.agg #[.int .i64 0, .int .i64 0, .int .i64 0, .int .i64 0], .slice none 0 0], []⟩ 8 (by kernel_rfl) (by kernel_rfl) (by kernel_rfl) (by kernel_rfl)) ?_
  intro W base args ds gs before hval0 hW hcnd _
  have hval : ∀ (j : Nat) t v, Tryz.f11.params[j]? = some t → args[j]? = some v → Value.okWide Tryz.prog W .any base t v := hval0
  have hW' := hW
  have hlt := hW.lt
  obtain ⟨p, q, hA0, hV, hpq, hfz, hnd⟩ := hW
  have hA : DataW.TrodAll enc Tryz.prog W 0 (fun _ => true) true Tryz.f11.params.toList args.toList ds p := hA0
  rw [Tryz.params11] at hA hval
  obtain ⟨v0, vs0, d0, ds0, p0, q0, hargs, rfl, hp, h0, r0⟩ := trodAll_cons hA
  obtain ⟨v1, vs1, d1, ds1, p1, q1, rfl, rfl, rfl, h1, r1⟩ := trodAll_cons r0
  obtain ⟨rfl, rfl, rfl⟩ := trodAll_nil r1
  obtain rfl : args = #[v0, v1] := by cases args; simp_all
  obtain ⟨rfl, rfl⟩ := trodVars_none hV
  have hlt' : ∀ x ∈ before, x.block < W.heap.size := fun x hx => hlt x hx
  obtain ⟨c0, e0, g0, k0, rfl, w0⟩ := plan_in (hval 0 23 v0 rfl rfl) h0
  obtain ⟨l1, w1⟩ := hops_in (hval 1 25 v1 rfl rfl) h1
  refine (walk c0 e0 g0 k0 l1 v1 W w0 w1).mono fun e W' ⟨he, hb⟩ => ?_
  subst he
  exact ⟨_, rfl, law_post rfl (by kernel_rfl) hW' (by rw [Tryz.params11]; intro t ht; simp only [List.mem_cons, List.not_mem_nil, or_false] at ht; (repeat' (first | (rcases ht with rfl | ht) | subst ht)) <;> exact ⟨by kernel_rfl, of_decide_eq_true (by kernel_rfl)⟩) rfl hb⟩

theorem over : Rows.heapCountsRow.holds Tryz.pinned (OpenSpec.ofChange Rows.heapCountsSpec) :=
  OpenClaim.holds_of_wide 11 Tryz.f11 rfl rfl rfl rfl rfl rfl rfl ⟨rfl, rfl, rfl, rfl, rfl⟩ rfl rfl rfl rfl rfl (by kernel_rfl) Tryz.func11 (by kernel_rfl)
    (of_decide_eq_true (by kernel_rfl)) (by unfold Func.isWrapper; first | (rw [if_pos (by decide +kernel)]; kernel_rfl) | (rw [if_neg (by decide +kernel)]; exact ⟨rfl, rfl⟩))
    (fun os started H enc _ => lifted os started H enc)

theorem proved : Rows.HeapCountsSaid := over
end Go.Proofs.YtjkefcidbcifpaaGreat.heapCounts
