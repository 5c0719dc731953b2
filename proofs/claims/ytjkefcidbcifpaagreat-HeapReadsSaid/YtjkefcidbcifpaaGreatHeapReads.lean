/-
  What only reads changes nothing and writes nothing. No conditions.
-/
import Derived.Test.YtjkefcidbcifpaaGreatZnf
namespace Go.Proofs.YtjkefcidbcifpaaGreat.heapReads
set_option maxRecDepth 100000
open Go.Proofs.YtjkefcidbcifpaaGreat Go.ChangeShapes Go.WideShapes Go.ChangeAt Go.RowKit
set_option maxRecDepth 100000 in
set_option maxHeartbeats 8000000 in
theorem walk (c0 e0 g0 k0 : Int) (l1 : List Px) (v1 : Value) (l2 : List Px) (v2 : Value) (w : World) (_ : (Lit.int .i64 c0).wf = true ∧ (Lit.int .i64 e0).wf = true ∧ (Lit.int .i64 g0).wf = true ∧ (Lit.int .i64 k0).wf = true) (w1 : RA (opE w) w v1 l1) (w2 : RA (opE w) w v2 l2) :
 Calls Tryz.prog 7 #[(Value.agg #[Value.int IntKind.i64 c0, Value.int IntKind.i64 e0, Value.int IntKind.i64 g0, Value.int IntKind.i64 k0]), v1, v2] w fun e w' => e = .returned (.bool true) ∧ Below w.heap.size w w' := by
 obtain ⟨W, hW, H0⟩ := plan_boxed w c0 e0 g0 k0
 have PQ := Lib.hid H0.out.1
 have HB := Lib.hid H0.out.2
 obtain ⟨p1, q1, rfl, _⟩ := ra_shape w1
 obtain ⟨p2, q2, rfl, _⟩ := ra_shape w2
 have W1 := Lib.hid w1
 have W2 := Lib.hid w2
 have HV1 := Lib.hid (heavy21b l1 [] _ (.slice none 0 0) (ra_below w1 HB.out) (ri_nil W))
 have HV2 := Lib.hid (fun w' (hb : Below w.heap.size w w') => heavy21b l2 [] _ (.slice none 0 0) (ra_below w2 hb) (ri_nil w'))
 have PW := Lib.hid (plan_raw c0 e0 g0 k0)
 clear w1 w2 H0
 go_enter Tryz.func7, Tryz.ntmps7
 go_wp2_with fail
 refine (HV1.out).mono ?_; rintro e w3 ⟨⟨r1, rfl, hr1, hl1⟩, b3⟩
 have B3 := Lib.hid b3
 clear b3
 go_wp2_with fail
 refine (HV2.out w3 (below_more HB.out B3.out)).mono ?_; rintro e w4 ⟨⟨r2, rfl, hr2, hl2⟩, b4⟩
 have B4 := Lib.hid (below_more B3.out b4)
 clear b4
 obtain ⟨R, hR⟩ : ∃ R : Nat, r1 + r2 = R := ⟨_, rfl⟩
 have iw : IntKind.i64.wrap ((r1 : Int) + (r2 : Int)) = (R : Int) := by
  rw [show (r1 : Int) + (r2 : Int) = (R : Int) by omega]
  exact i64_nat _ (by omega)
 by_cases h0 : R = 0
 rotate_left
 · have i1 : (R : Int) > 0 := by omega
   have i2 : 0 < R := by omega
   clear h0 hR hr1 hr2 hl1 hl2
   go_wp2_with fail
   refine (awake_any _).mono ?_; rintro e w5 ⟨rfl, b5⟩
   have D5 := Lib.hid (below_more HB.out (below_more B4.out b5))
   go_wp2_with fail
   go_ret
   exact ⟨rfl, D5.out⟩
 have L1 := Lib.hid (hl1 (by omega))
 have L2 := Lib.hid (hl2 (by omega))
 have i1 : ¬ (R : Int) > 0 := by omega
 have i2 : ¬ 0 < R := by omega
 have PQ4 := Lib.hid (PQ.out.below B4.out)
 have a0 := PQ4.out.c0
 have a1 := PQ4.out.c1
 have a2 : w4.cell? ⟨w.heap.size, 2, none⟩ = some (.int .i64 g0) := Whole.at_ PQ4.out 2
 have a3 : w4.cell? ⟨w.heap.size, 3, none⟩ = some (.int .i64 k0) := Whole.at_ PQ4.out 3
 clear h0 hR hr1 hr2 hl1 hl2 HV1 HV2
 go_wp2_with fail
 refine (PW.out _).mono ?_; rintro e w5 ⟨⟨N, P, per, b, rfl, hN⟩, b5⟩
 have HN := Lib.hid hN
 have PQ5 := Lib.hid (PQ4.out.below b5)
 have B5 := Lib.hid (below_more HB.out (below_more B4.out b5))
 clear b5 hN a0 a1 a2 a3
 have hst := PQ5.out.pstore (l' := (N : Int)) (s' := (P : Int)) (p' := (per : Int)) (b' := (b : Int))
 have HV := Lib.hid (And.intro (PQ5.out.pput (l' := (N : Int)) (s' := (P : Int)) (p' := (per : Int)) (b' := (b : Int))) (show Below w.heap.size w (w5.setRow w.heap.size #[Value.int IntKind.i64 (N : Int), Value.int IntKind.i64 (P : Int), Value.int IntKind.i64 (per : Int), Value.int IntKind.i64 (b : Int)]) from below_row B5.out (Nat.le_refl _)))
 obtain ⟨V, hV⟩ : ∃ V, w5.setRow w.heap.size #[Value.int IntKind.i64 (N : Int), Value.int IntKind.i64 (P : Int), Value.int IntKind.i64 (per : Int), Value.int IntKind.i64 (b : Int)] = V := ⟨_, rfl⟩
 rw [hV] at hst HV
 have lV := HV.out.1.load
 have MD := Lib.hid (made_is (w := V) (N := N) (P := P) (per := per) (b := b) (v := .slice none 0 0) (lim := []) (by have := HN.out; unfold MayN; omega) (ri_nil V))
 go_wp2_with fail
 refine (MD.out).mono ?_; rintro e w6 ⟨b6, ⟨a, S, ha, rfl, hnew, hp, hi, hw, hco, hfr, hct⟩ | ⟨hl, _⟩⟩
 rotate_left
 · exact absurd rfl hl
 have B6 := Lib.hid (below_more HV.out.2 b6)
 have PQ6 := Lib.hid (HV.out.1.below b6)
 have H6 := Lib.hid (And.intro hp (And.intro hi (And.intro hco (And.intro (hfr rfl) hw))))
 have HA := Lib.hid ha
 have LO : Hid (∀ k ∈ a.D, w.heap.size ≤ k) := Lib.hid (by
  have := HV.out.2.size
  intro k hk
  simp only [Ha.D, List.mem_cons, List.not_mem_nil, or_false] at hk
  rcases hk with rfl | rfl | rfl | rfl <;> omega)
 have a0 := PQ6.out.c0
 clear b6 hp hi hco hfr hw hct hnew ha lV hst MD
 have i8 : IntKind.i64.wrap ((N : Int) * 8) = ((8 * N : Nat) : Int) := by rw [show (N : Int) * 8 = ((8 * N : Nat) : Int) by omega]; exact i64_nat _ (by have := HN.out; omega)
 have C7 := Lib.hid (rnew_yes (8 * N) (by have := HN.out; unfold Mw; omega) w6)
 go_wp2_with fail
 refine (C7.out).mono ?_; rintro e w7 ⟨⟨g, rfl, hg, _, hR⟩, b7⟩
 have HR7 := Lib.hid (hrun_new (w0 := w) (fr := true) H6.out.1 H6.out.2.1 H6.out.2.2.1 (fun _ => H6.out.2.2.2) LO.out B6.out.size hg b7 B6.out hR)
 clear hR hg b7 C7 i8 a0
 have HL1 := Lib.hid L1.out.len
 go_wp2
 go_loopw [49] (fun i wr => ∃ k : Nat, k ≤ l1.length ∧ i = .int .i64 k ∧ Hid (∃ S X r lb, HRun w wr a g (3 + k) true S X r lb)) (fun i _ => l1.length - (intOf i).toNat)
 case atStart => exact ⟨0, Nat.zero_le _, rfl, Lib.hid ⟨_, _, _, _, HR7.out⟩⟩
 case round =>
  clear HR7
  obtain ⟨k, hk, rfl, H⟩ := hrel
  by_cases hlt : k < l1.length
  · obtain ⟨S1, X1, r1, lb1, hrun⟩ := H.out
    obtain ⟨bb, off, hpp, _, hx⟩ := px_at (ra_below W1.out hrun.b) (by omega)
    subst hpp
    obtain ⟨hld, hwf⟩ := hx k hlt
    have hbl := L1.out.bl k hlt
    have i0 : (0 : Int) ≤ (k : Int) := by omega
    have i1 : (k : Int) < (l1.length : Int) := by omega
    have i3 : ¬ (k : Int) < 0 := by omega
    have i4 : IntKind.i64.wrap ((k : Int) + 1) = ((k + 1 : Nat) : Int) := by rw [show (k : Int) + 1 = ((k + 1 : Nat) : Int) by omega]; exact i64_nat _ (by have := HL1.out; omega)
    have HK := Lib.hid hlt
    clear hx hk hlt
    generalize l1.getD k default = x at *
    obtain ⟨W9, hW9, hst, HB9⟩ := px_boxed wr x hwf.one
    have R9 := Lib.hid (hrun.below HB9.out.2)
    have C := Lib.hid (R9.out.step x (by have := HK.out; have := HL1.out; omega) hwf (by omega))
    have ldx : (pxLoad (.pointer (some ⟨wr.heap.size, 0, none⟩))).run Tryz.prog W9 = .ok (.agg (pxc x)) W9 := run_pxLoad fun j u hj => by rw [Whole.at_ HB9.out.1, Nat.zero_add, ← hj]; simp [pxc]
    clear hrun hwf hbl H
    go_wp2_with fail
    refine (C.out).mono ?_; rintro e w' ⟨rfl, _, S', X', r', lb', h', _⟩
    have HN1 : Hid (∃ S X r lb, HRun w w' a g (3 + (k + 1)) true S X r lb) := Lib.hid ⟨_, _, _, _, h'⟩
    clear h' C
    go_wp2
    go_roundw
    case rel => exact ⟨k + 1, by have := HK.out; omega, by go_num, HN1⟩
    case measure => have := HK.out; simp [intOf]; omega
  · obtain rfl : k = l1.length := by omega
    obtain ⟨S1, X1, r1, lb1, hrun⟩ := H.out
    have R1 := Lib.hid hrun
    have HI1 := Lib.hid hrun.hi
    have CW := Lib.hid (fun (w' : World) (q : HRun w w' a g (3 + l1.length) true S1 X1 r1 lb1) => hWords_is q.hp.hb HI1.out.num HI1.out.hc.lg HI1.out.live HI1.out.hc.has)
    have MV := Lib.hid (fun (w' : World) (q : HRun w w' a g (3 + l1.length) true S1 X1 r1 lb1) => hmov_is q.hp HI1.out.hc.lg HI1.out.live)
    have WC := Lib.hid (fun (w' : World) (q : HRun w w' a g (3 + l1.length) true S1 X1 r1 lb1) => writes_any a.g S1.s w' q.hp.hb.lg.nm)
    clear hrun H hk hlt
    go_wp2_with fail
    refine (CW.out _ R1.out).mono ?_; rintro e w8 ⟨⟨v8, rfl, o8⟩, b8⟩
    have R8 := Lib.hid (R1.out.below b8)
    have O8 := Lib.hid o8
    have LT : Hid (∀ k ∈ g :: a.D, k < wr.heap.size) := Lib.hid R1.out.boxed
    obtain ⟨q8, n8, rfl⟩ := o8.shape
    clear o8 b8
    go_wp2_with fail
    refine (WC.out _ R8.out).mono ?_; rintro e w9 ⟨rfl, rfl⟩
    go_wp2_with fail
    refine (MV.out _ R8.out).mono ?_; rintro e w9 ⟨rfl, rfl⟩
    have HL2 := Lib.hid L2.out.len
    obtain ⟨BS, hBS⟩ : ∃ n, wr.heap.size = n := ⟨_, rfl⟩
    rw [hBS] at O8 LT
    clear hBS
    go_wp2
    go_loopw [70] (fun i wr => ∃ k : Nat, k ≤ l2.length ∧ i = .int .i64 k ∧ Hid (HRun w wr a g (3 + l1.length) true S1 X1 r1 lb1 ∧ OwnU BS wr (.slice q8 X1.length n8) X1)) (fun i _ => l2.length - (intOf i).toNat)
    case atStart => exact ⟨0, Nat.zero_le _, rfl, Lib.hid ⟨R8.out, O8.out⟩⟩
    case round =>
     clear R8 O8
     obtain ⟨k, hk, rfl, H⟩ := hrel
     by_cases hlt : k < l2.length
     · obtain ⟨bb, off, hpp, _, hx⟩ := px_at (ra_below W2.out H.out.1.b) (by omega)
       subst hpp
       obtain ⟨hld, hwf⟩ := hx k hlt
       have hbl := L2.out.bl k hlt
       have i0 : (0 : Int) ≤ (k : Int) := by omega
       have i1 : (k : Int) < (l2.length : Int) := by omega
       have i3 : ¬ (k : Int) < 0 := by omega
       have i4 : IntKind.i64.wrap ((k : Int) + 1) = ((k + 1 : Nat) : Int) := by rw [show (k : Int) + 1 = ((k + 1 : Nat) : Int) by omega]; exact i64_nat _ (by have := HL2.out; omega)
       have HK := Lib.hid hlt
       clear hx hk hlt
       generalize l2.getD k default = x at *
       obtain ⟨W9, hW9, hst, HB9⟩ := px_boxed wr x hwf.one
       have HX := Lib.hid hwf
       have HBL : Hid (x.bl.length ≤ 100000) := Lib.hid (by omega)
       have c2 := HB9.out.1.c2
       clear hwf hbl
       have hm2 : x.nn % 2 = 0 ∨ x.nn % 2 = 1 := by omega
       rcases hm2 with hm | hm
       · have im : x.nn % 2 = 0 := hm
         obtain ⟨V9, hV9⟩ : ∃ V, W9.setCell ⟨wr.heap.size, 0, none⟩ (.int .i64 3) = V := ⟨_, rfl⟩
         have PV : Hid (Pxv V9 wr.heap.size ⟨3, x.o, x.nn, x.msk, x.v, x.bl⟩ ∧ Below wr.heap.size wr V9) := Lib.hid (by rw [← hV9]; exact ⟨HB9.out.1.set_ 0 _, HB9.out.2.setCell (p := ⟨wr.heap.size, 0, none⟩) (Nat.le_refl _) _⟩)
         have R9 := Lib.hid (H.out.1.below PV.out.2)
         have O9 := Lib.hid (OwnU.below H.out.2 PV.out.2)
         have C := Lib.hid (R9.out.reads ⟨3, x.o, x.nn, x.msk, x.v, x.bl⟩ (by have := HL1.out; omega) ⟨(by show (Lit.int .i64 3).wf = true; decide), HX.out.wo, HX.out.wn, HX.out.wm, HX.out.one, HX.out.rv⟩ HBL.out (.inl rfl))
         have ldx : (pxLoad (.pointer (some ⟨wr.heap.size, 0, none⟩))).run Tryz.prog V9 = .ok (.agg (pxc ⟨3, x.o, x.nn, x.msk, x.v, x.bl⟩)) V9 := run_pxLoad fun j u hj => by rw [Whole.at_ PV.out.1, Nat.zero_add, ← hj]; simp [pxc]
         have e9 : W9.cell? ⟨wr.heap.size, 0, none⟩ = some (.int .i64 x.d) := HB9.out.1.c0
         have f9 := Whole.free HB9.out.1 0
         clear hm H
         go_wp2_with fail
         refine (C.out).mono ?_; rintro e w' ⟨rfl, c', h'⟩
         have HN1 : Hid (HRun w w' a g (3 + l1.length) true S1 X1 r1 lb1 ∧ OwnU BS w' (.slice q8 X1.length n8) X1) := Lib.hid ⟨h', own_chg_u O9.out c' LT.out⟩
         clear h' c' C
         go_wp2
         go_roundw
         case rel => exact ⟨k + 1, by have := HK.out; omega, by go_num, HN1⟩
         case measure => have := HK.out; simp [intOf]; omega
       · have im : x.nn % 2 = 1 := hm
         obtain ⟨V9, hV9⟩ : ∃ V, W9.setCell ⟨wr.heap.size, 0, none⟩ (.int .i64 6) = V := ⟨_, rfl⟩
         have PV : Hid (Pxv V9 wr.heap.size ⟨6, x.o, x.nn, x.msk, x.v, x.bl⟩ ∧ Below wr.heap.size wr V9) := Lib.hid (by rw [← hV9]; exact ⟨HB9.out.1.set_ 0 _, HB9.out.2.setCell (p := ⟨wr.heap.size, 0, none⟩) (Nat.le_refl _) _⟩)
         have R9 := Lib.hid (H.out.1.below PV.out.2)
         have O9 := Lib.hid (OwnU.below H.out.2 PV.out.2)
         have C := Lib.hid (R9.out.reads ⟨6, x.o, x.nn, x.msk, x.v, x.bl⟩ (by have := HL1.out; omega) ⟨(by show (Lit.int .i64 6).wf = true; decide), HX.out.wo, HX.out.wn, HX.out.wm, HX.out.one, HX.out.rv⟩ HBL.out (.inr rfl))
         have ldx : (pxLoad (.pointer (some ⟨wr.heap.size, 0, none⟩))).run Tryz.prog V9 = .ok (.agg (pxc ⟨6, x.o, x.nn, x.msk, x.v, x.bl⟩)) V9 := run_pxLoad fun j u hj => by rw [Whole.at_ PV.out.1, Nat.zero_add, ← hj]; simp [pxc]
         have e9 : W9.cell? ⟨wr.heap.size, 0, none⟩ = some (.int .i64 x.d) := HB9.out.1.c0
         have f9 := Whole.free HB9.out.1 0
         clear hm H
         go_wp2_with fail
         refine (C.out).mono ?_; rintro e w' ⟨rfl, c', h'⟩
         have HN1 : Hid (HRun w w' a g (3 + l1.length) true S1 X1 r1 lb1 ∧ OwnU BS w' (.slice q8 X1.length n8) X1) := Lib.hid ⟨h', own_chg_u O9.out c' LT.out⟩
         clear h' c' C
         go_wp2
         go_roundw
         case rel => exact ⟨k + 1, by have := HK.out; omega, by go_num, HN1⟩
         case measure => have := HK.out; simp [intOf]; omega
     · obtain rfl : k = l2.length := by omega
       have RN := Lib.hid H.out.1
       have ON := Lib.hid H.out.2
       clear H hk hlt
       go_wp2_with fail
       refine (CW.out _ RN.out).mono ?_; rintro e w10 ⟨⟨v10, rfl, o10⟩, b10⟩
       have RM := Lib.hid (RN.out.below b10)
       have SW := Lib.hid (words_same (OwnU.below ON.out b10).ru o10.ru)
       have B10 := Lib.hid RM.out.b
       obtain ⟨q10, n10, rfl⟩ := o10.shape
       clear o10 b10
       go_wp2_with fail
       refine (SW.out).mono ?_; rintro e w11 ⟨rfl, nn, rfl⟩
       have RD := Lib.hid (RM.out.below (below_drewN (Below.refl _ _) nn))
       go_wp2_with fail
       refine (WC.out _ RD.out).mono ?_; rintro e w12 ⟨rfl, rfl⟩
       go_wp2_with fail
       refine (MV.out _ RD.out).mono ?_; rintro e w12 ⟨rfl, rfl⟩
       go_wp2_with fail
       refine (awake_any _).mono ?_; rintro e w13 ⟨rfl, b13⟩
       have D13 := Lib.hid (below_more RD.out.b b13)
       go_wp2_with fail
       go_ret
       exact ⟨rfl, D13.out⟩
set_option maxRecDepth 100000 in
theorem lifted (os : Os) (started : os.Started) (H : Type) (enc : TypeId × Value → H) :
 ReturnsInHanded {} Tryz.checked os 7 .any (Rows.heapReadsSpec.pre6 enc Tryz.prog Tryz.f7 Rows.heapReadsRow.domain false) (Rows.heapReadsSpec.post enc Tryz.prog Tryz.f7 false true false false) := by
 refine returnsInHanded_of_change (C := Tryz.checked) own started (by kernel_rfl) Tryz.func7
  (ChangeSpec.witness6 (enc := enc) (C := Tryz.checked) false ⟨#[], #[.agg #[.int .i64 0, .int .i64 0, .int .i64 0, .int .i64 0], .slice none 0 0, .slice none 0 0], []⟩ 8 (by kernel_rfl) (by kernel_rfl) (by kernel_rfl) (by kernel_rfl)) ?_
 intro W base args ds gs before hval0 hW hcnd _
 have hval : ∀ (j : Nat) t v, Tryz.f7.params[j]? = some t → args[j]? = some v → Value.okWide Tryz.prog W .any base t v := hval0
 have hW' := hW
 have hlt := hW.lt
 obtain ⟨p, q, hA0, hV, hpq, hfz, hnd⟩ := hW
 have hA : DataW.TrodAll enc Tryz.prog W 0 (fun _ => true) true Tryz.f7.params.toList args.toList ds p := hA0
 rw [Tryz.params7] at hA hval
 obtain ⟨v0, vs0, d0, ds0, p0, q0, hargs, rfl, hp, h0, r0⟩ := trodAll_cons hA
 obtain ⟨v1, vs1, d1, ds1, p1, q1, rfl, rfl, rfl, h1, r1⟩ := trodAll_cons r0
 obtain ⟨v2, vs2, d2, ds2, p2, q2, rfl, rfl, rfl, h2, r2⟩ := trodAll_cons r1
 obtain ⟨rfl, rfl, rfl⟩ := trodAll_nil r2
 obtain rfl : args = #[v0, v1, v2] := by cases args; simp_all
 obtain ⟨rfl, rfl⟩ := trodVars_none hV
 have hlt' : ∀ x ∈ before, x.block < W.heap.size := fun x hx => hlt x hx
 obtain ⟨c0, e0, g0, k0, rfl, w0⟩ := plan_in (hval 0 23 v0 rfl rfl) h0
 obtain ⟨l1, w1⟩ := hops_in (hval 1 25 v1 rfl rfl) h1
 obtain ⟨l2, w2⟩ := hops_in (hval 2 25 v2 rfl rfl) h2
 refine (walk c0 e0 g0 k0 l1 v1 l2 v2 W w0 w1 w2).mono fun e W' ⟨he, hb⟩ => ?_
 subst he
 exact ⟨_, rfl, law_post rfl (by kernel_rfl) hW' (by rw [Tryz.params7]; intro t ht; simp only [List.mem_cons, List.not_mem_nil, or_false] at ht; (repeat' (first | (rcases ht with rfl | ht) | subst ht)) <;> exact ⟨by kernel_rfl, of_decide_eq_true (by kernel_rfl)⟩) rfl hb⟩
theorem over : Rows.heapReadsRow.holds Tryz.pinned (OpenSpec.ofChange Rows.heapReadsSpec) :=
 OpenClaim.holds_of_wide 7 Tryz.f7 rfl rfl rfl rfl rfl rfl rfl ⟨rfl, rfl, rfl, rfl, rfl⟩ rfl rfl rfl rfl rfl (by kernel_rfl) Tryz.func7 (by kernel_rfl)
  (of_decide_eq_true (by kernel_rfl)) (by unfold Func.isWrapper; first | (rw [if_pos (by decide +kernel)]; kernel_rfl) | (rw [if_neg (by decide +kernel)]; exact ⟨rfl, rfl⟩))
  (fun os started H enc _ => lifted os started H enc)
theorem proved : Rows.HeapReadsSaid := over
end Go.Proofs.YtjkefcidbcifpaaGreat.heapReads
