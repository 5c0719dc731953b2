/-
  Of a right heap a judge never says no: any plan, any limits, any operations without power cuts. No conditions.
-/
import Derived.Test.YtkpefnjohdjejaaGreatZpe
namespace Go.Proofs.YtkpefnjohdjejaaGreat.judgeHeap
set_option maxRecDepth 100000
open Go.Proofs.YtkpefnjohdjejaaGreat Go.ChangeShapes Go.WideShapes Go.ChangeAt Go.RowKit
set_option maxRecDepth 100000 in
set_option maxHeartbeats 8000000 in
theorem walk (c0 e0 g0 k0 : Int) (lim : List Int) (vl : Value) (l1 : List Px) (v1 : Value) (w : World) (_ : (Lit.int .i64 c0).wf = true ∧ (Lit.int .i64 e0).wf = true ∧ (Lit.int .i64 g0).wf = true ∧ (Lit.int .i64 k0).wf = true) (wl0 : IntsIn .i64 w vl lim) (w1 : RA (opE w) w v1 l1) :
 Calls Tryz.prog 3 #[(Value.agg #[Value.int IntKind.i64 c0, Value.int IntKind.i64 e0, Value.int IntKind.i64 g0, Value.int IntKind.i64 k0]), vl, v1] w fun e w' => e = .returned (.bool true) ∧ Below w.heap.size w w' := by
 have wl := ri_in wl0
 obtain ⟨W, hW, H0⟩ := plan_boxed w c0 e0 g0 k0
 have PQ := jz H0.out.1
 have HB := jz H0.out.2
 have WL := jz wl
 obtain ⟨p1, q1, rfl, _⟩ := ra_shape w1
 obtain ⟨pl, ql, rfl, _⟩ := wl
 have W1 := jz w1
 have HV1 := jz (heavy21b l1 lim _ (.slice pl lim.length ql) (ra_below w1 HB.out) (ri_below WL.out HB.out))
 have PW := jz (plan_raw c0 e0 g0 k0)
 clear w1 H0 wl0
 go_enter Tryz.func3, Tryz.ntmps3
 go_wp2_with fail
 refine (HV1.out).mono ?_; rintro e w4 ⟨⟨R, rfl, hr1, hl1⟩, b4⟩
 have B4 := jz b4
 clear b4
 by_cases h0 : R = 0
 rotate_left
 · have i1 : (R : Int) > 0 := by omega
   have i2 : 0 < R := by omega
   clear h0 hr1 hl1
   go_wp2_with fail
   refine (awake_any _).mono ?_; rintro e w5 ⟨rfl, b5⟩
   have D5 := jz (below_more HB.out (below_more B4.out b5))
   go_wp2_with fail
   go_ret
   exact ⟨rfl, D5.out⟩
 have L1 := jz (hl1 (by omega))
 have i1 : ¬ (R : Int) > 0 := by omega
 have i2 : ¬ 0 < R := by omega
 have PQ4 := jz (PQ.out.below B4.out)
 have a0 := PQ4.out.c0
 have a1 := PQ4.out.c1
 have a2 : w4.cell? ⟨w.heap.size, 2, none⟩ = some (.int .i64 g0) := Whole.at_ PQ4.out 2
 have a3 : w4.cell? ⟨w.heap.size, 3, none⟩ = some (.int .i64 k0) := Whole.at_ PQ4.out 3
 clear h0 hr1 hl1 HV1
 go_wp2_with fail
 refine (PW.out _).mono ?_; rintro e w5 ⟨⟨N, P, per, b, rfl, hN⟩, b5⟩
 have HN := jz hN
 have PQ5 := jz (PQ4.out.below b5)
 have B5 := jz (below_more HB.out (below_more B4.out b5))
 clear b5 hN a0 a1 a2 a3
 have hst := PQ5.out.pstore (l' := (N : Int)) (s' := (P : Int)) (p' := (per : Int)) (b' := (b : Int))
 have HV := jz (And.intro (PQ5.out.pput (l' := (N : Int)) (s' := (P : Int)) (p' := (per : Int)) (b' := (b : Int))) (show Below w.heap.size w (w5.setRow w.heap.size #[Value.int IntKind.i64 (N : Int), Value.int IntKind.i64 (P : Int), Value.int IntKind.i64 (per : Int), Value.int IntKind.i64 (b : Int)]) from below_row B5.out (Nat.le_refl _)))
 obtain ⟨V, hV⟩ : ∃ V, w5.setRow w.heap.size #[Value.int IntKind.i64 (N : Int), Value.int IntKind.i64 (P : Int), Value.int IntKind.i64 (per : Int), Value.int IntKind.i64 (b : Int)] = V := ⟨_, rfl⟩
 rw [hV] at hst HV
 have lV := HV.out.1.load
 have hn : MayN N P per b := by have := HN.out; unfold MayN; omega
 have hn' : ∀ g, HNum ⟨0, g, 0, 0, 0, 0, 0, N, P, per, b⟩ := fun g => ⟨hn.1, hn.2.1, hn.2.2.1, hn.2.2.2⟩
 have hN64 : 1 ≤ N ∧ N ≤ 64 ∧ P ≤ 16 := ⟨hn.1.1, hn.1.2, hn.2.1⟩
 have HCL := jz (fun w' (hb : Below V.heap.size V w') => (HV.out.1.below hb).load)
 have HVs : Hid (w.heap.size < V.heap.size) := jz HV.out.1.lt
 have C1 := jz (fun w => device_yes hn (v := 16 + N + 1 + P) (by omega) w)
 have C2 := jz (fun w' (hb : Below V.heap.size V w') => new_yes (16 + N + 1 + P) (.slice pl lim.length ql) lim w' (by omega) (by omega) (ri_below WL.out (below_more HV.out.2 hb)))
 have C3 := jz (fun w' g (q : Nm w' g (newNv (16 + N + 1 + P) lim)) => hformat_is (a := ⟨0, g, 0, 0, 0, 0, 0, N, P, per, b⟩) (hn' g) q)
 have C4 := jz (fun w' g s p (q : Nm w' g s) (f : Fst (newNv (16 + N + 1 + P) lim) s N P p N (firstL (8 * N : Nat))) => hopen_hc (w := w') (a := ⟨0, g, 0, 0, 0, 0, 0, N, P, per, b⟩) (hn' g) (fst_hc (hn' g) f).1 (by decide) f.live q)
 have C5 := jz (fun w => words_yes hn (v := 8 * N) (by omega) w)
 have C6 := jz (fun w => jnew_yes (8 * N) (by have := HN.out; unfold Mw; omega) w)
 have HM := jz hn'
 clear hn hn' hN64
 go_wp2_with fail
 refine (C1.out _).mono ?_; rintro e w1 ⟨rfl, b1⟩
 have D1 := jz b1
 clear b1 C1 lV hst
 go_wp2_with fail
 refine (C2.out _ D1.out).mono ?_; rintro e w2 ⟨g, rfl, hg, hNm, b2⟩
 have D2 := jz (below_more D1.out b2)
 have N2 := jz hNm
 have G2 : Hid (V.heap.size ≤ g) := jz (Nat.le_trans D1.out.size hg)
 have l2 := HCL.out _ D2.out
 clear b2 hg hNm C2
 go_wp2_with fail
 refine (C3.out _ _ N2.out).mono ?_; rintro e w3 ⟨E, s, rfl, hN3, hc3, ho⟩
 have W3 : Hid (Chg [g] w2 w3 ∧ Nm w3 g s) := jz ⟨hc3, hN3⟩
 have B3 : Hid (Below V.heap.size V w3) := jz (hc3.below D2.out D2.out.size (fun k hk => by rw [List.mem_singleton.1 hk]; exact G2.out))
 have l3 := HCL.out _ B3.out
 clear hN3 hc3 l2
 rcases ho with ⟨rfl, p, hF⟩ | ⟨hE, hF⟩
 rotate_left
 · have i5 : 0 < lim.length := by
    rcases lim with _ | ⟨y, t⟩
    · exact absurd (newNv_free _) hF
    · simp
   have i6 : (lim.length : Int) > 0 := by omega
   have i7 : (E == 0) = false := beq_eq_false_iff_ne.2 hE
   have i8 : (E != 0) = true := by simpa using hE
   have B6 := jz (below_more HV.out.2 B3.out)
   clear hE hF C3 C4 C5 C6 l3
   go_wp2_with fail
   refine (awake_any _).mono ?_; rintro e w7 ⟨rfl, b7⟩
   have D7 := jz (below_more B6.out b7)
   go_wp2_with fail
   go_ret
   exact ⟨rfl, D7.out⟩
 have HF := jz hF
 clear hF
 go_wp2_with fail
 refine (C4.out _ _ _ p W3.out.2 HF.out).mono ?_; rintro e w4 ⟨c4, o⟩
 rcases o with ⟨a, S, rfl, ⟨a1, a2, a3, a4, a5⟩, hnew, hp, hi, hwf, hla, hco, hsn, hs0, hfr, hct⟩ | ⟨_, hco, _⟩
 rotate_left
 · rw [HF.out.comes] at hco; cases hco
 have B4 := jz (c4.below B3.out B3.out.size (fun k hk => by rw [List.mem_singleton.1 hk]; exact G2.out))
 have H4 := jz (And.intro hp (And.intro hi (hco.trans HF.out.comes)))
 have LO : Hid (∀ k ∈ a.D, V.heap.size ≤ k) := jz (by
  have h1 := G2.out
  have h3 := B3.out.size
  dsimp only at a1
  intro k hk
  simp only [Ha.D, List.mem_cons, List.not_mem_nil, or_false] at hk
  rcases hk with rfl | rfl | rfl | rfl <;> omega)
 have l4 := HCL.out _ B4.out
 clear c4 a1 a2 a3 a4 a5 hnew hp hi hwf hla hco hsn hs0 hfr hct l3 C3 C4
 go_wp2_with fail
 refine (C5.out _).mono ?_; rintro e w5 ⟨rfl, b5⟩
 have B5 := jz b5
 clear b5 l4 C5
 go_wp2_with fail
 refine (C6.out _).mono ?_; rintro e w6 ⟨⟨j, gj, rfl, j1, j2, j3⟩, b6⟩
 have HR7 : Hid (∃ S X r g D s, JRun V w6 a j (3 + 0) S X r g D s) := jz (by
  have hp5 := H4.out.1.below B5.out
  have hall := hp5.all
  have hDl : ∀ k ∈ a.D, k < w5.heap.size := fun k hk => by
   simp only [Ha.D, List.mem_cons, List.not_mem_nil, or_false] at hk
   rcases hk with rfl | rfl | rfl | rfl <;> omega
  have hs4 := B4.out.size
  have hs5 := B5.out.size
  refine ⟨S, _, 0, gj, _, _, hp5.below b6, H4.out.2.1, H4.out.2.2, j3 a.D hDl, below_more (below_more B4.out B5.out) b6, LO.out, ⟨by omega, by omega⟩, fun k hk => List.mem_cons_of_mem _ (List.mem_cons_of_mem _ hk), fun k hk => ?_, rfl, rfl, fun h => by cases h⟩
  simp only [List.mem_cons, List.not_mem_nil, or_false] at hk
  rcases hk with rfl | rfl | rfl | rfl | rfl | rfl | rfl <;> omega)
 have HL1 := jz L1.out.len
 clear j1 j2 j3 b6 C6 H4 B5 B4 LO HF W3 B3
 go_wp2
 go_loopw [72] (fun i wr => ∃ k : Nat, k ≤ l1.length ∧ i = .int .i64 k ∧ Hid (∃ S X r g D s, JRun V wr a j (3 + k) S X r g D s)) (fun i _ => l1.length - (intOf i).toNat)
 case atStart => exact ⟨0, Nat.zero_le _, rfl, HR7⟩
 case round =>
  clear HR7
  obtain ⟨k, hk, rfl, H⟩ := hrel
  by_cases hlt : k < l1.length
  · obtain ⟨S1, X1, r1, g1, D1, s1, hrun⟩ := H.out
    obtain ⟨bb, off, hpp, _, hx⟩ := px_at (ra_below W1.out (below_more HV.out.2 hrun.b)) (by omega)
    subst hpp
    obtain ⟨hld, hwf⟩ := hx k hlt
    have hbl := L1.out.bl k hlt
    have i0 : (0 : Int) ≤ (k : Int) := by omega
    have i1 : (k : Int) < (l1.length : Int) := by omega
    have i3 : ¬ (k : Int) < 0 := by omega
    have i4 : IntKind.i64.wrap ((k : Int) + 1) = ((k + 1 : Nat) : Int) := by rw [show (k : Int) + 1 = ((k + 1 : Nat) : Int) by omega]; exact i64_nat _ (by have := HL1.out; omega)
    have HK := jz hlt
    clear hx hk hlt
    generalize l1.getD k default = x at *
    obtain ⟨W9, hW9, hst, HB9⟩ := px_boxed wr x hwf.one
    have R9 := jz (hrun.below HB9.out.2.drew)
    have HX := jz (fun w' (hb : Below w.heap.size w w') => px_ok hwf hb (by omega))
    have C := jz (R9.out.asks x (by have := HK.out; have := HL1.out; omega) (HX.out _ (below_more HV.out.2 R9.out.b)))
    have p9d : Pxv W9.drew wr.heap.size x := HB9.out.1.below (Below.refl _ _).drew
    have ldx : ∀ w', Pxv w' wr.heap.size x → (pxLoad (.pointer (some ⟨wr.heap.size, 0, none⟩))).run Tryz.prog w' = .ok (.agg (pxc x)) w' := fun w' h => run_pxLoad fun j u hj => by rw [Whole.at_ h, Nat.zero_add, ← hj]; simp [pxc]
    have ND : Hid (wr.heap.size ∉ a.D ∧ wr.heap.size ∉ [j, g1]) := jz (by
     have h1 := hrun.hp.all
     have h2 := hrun.jo.top.lt
     have h3 := hrun.jo.m.dlt g1 hrun.jo.m.gD
     simp [Ha.D]
     omega)
    clear hrun hwf hbl H
    go_wp2
    refine wp_region_held_drew (S := fun w' => Pxv w' wr.heap.size x) (by kernel_rfl) p9d (fun hHeld => ?_)
    refine wpAnyH_take (i := 0) (oi := ⟨some 76, _, _, _, _, _⟩) (v := ?_) rfl (by kernel_rfl) (by kernel_rfl) (by kernel_rfl) (fun _ _ _ h => h) (Or.inl ⟨by rfl, ?_⟩) (by assumption) ?_
    rotate_left
    focus (intro w hSw; (try dsimp only at hSw); go_simp; try with_reducible rfl)
    try simp only [Act.put, List.setIfInBounds_toArray, List.set_cons_zero, List.set_cons_succ]
    refine wpAnyH_take (i := 1) (oi := ⟨some 77, _, _, _, _, _⟩) (v := ?_) rfl (by kernel_rfl) (by kernel_rfl) (by kernel_rfl) (fun _ _ _ h => h) (Or.inl ⟨by rfl, ?_⟩) (by assumption) ?_
    rotate_left
    focus (intro w hSw; (try dsimp only at hSw); go_simp; try with_reducible rfl)
    try simp only [Act.put, List.setIfInBounds_toArray, List.set_cons_zero, List.set_cons_succ]
    refine wpAnyH_take (i := 2) (oi := ⟨some 78, _, _, _, _, _⟩) (v := ?_) rfl (by kernel_rfl) (by kernel_rfl) (by kernel_rfl) (fun _ _ _ h => h) (Or.inl ⟨by rfl, ?_⟩) (by assumption) ?_
    rotate_left
    focus (intro w hSw; (try dsimp only at hSw); go_simp; try with_reducible rfl)
    try simp only [Act.put, List.setIfInBounds_toArray, List.set_cons_zero, List.set_cons_succ]
    refine wpAnyH_take (i := 3) (oi := ⟨some 79, _, _, _, _, _⟩) (v := ?_) rfl (by kernel_rfl) (by kernel_rfl) (by kernel_rfl) (fun _ _ _ h => h) (Or.inl ⟨by rfl, ?_⟩) (by assumption) ?_
    rotate_left
    focus (intro w hSw; (try dsimp only at hSw); go_simp; try with_reducible rfl)
    try simp only [Act.put, List.setIfInBounds_toArray, List.set_cons_zero, List.set_cons_succ]
    refine wpAnyH_ready (rs := [4]) (by kernel_rfl) (by simp) ?_
    refine AllReadyH.cons (o := ⟨some 80, _, _, _, _, _⟩) rfl (fun K hK => ?_) AllReadyH.nil
    go_simp
    go_at_call 14; refine (C.out).mono ?_; rintro f wa ⟨er, off2, va, da, S2, X2, r2, rfl, k1, p1⟩
    have pa : Pxv wa wr.heap.size x := p9d.chg k1 ND.out.1
    have CS := jz (p1.sees (HX.out _ (below_more HV.out.2 p1.b)))
    clear k1 p1 C
    refine hK.out _ _ ?_ (fun hHeld => ?_)
    focus (exact pa)
    clear hK K
    try simp only [Act.put, List.setIfInBounds_toArray, List.set_cons_zero, List.set_cons_succ]
    refine wpAnyH_ready (rs := [5]) (by kernel_rfl) (by simp) ?_
    refine AllReadyH.cons (o := ⟨some 81, _, _, _, _, _⟩) rfl (fun K hK => ?_) AllReadyH.nil
    go_simp
    go_at_call 13; refine (CS.out).mono ?_; rintro f wb ⟨rfl, k2, g2, D2, s2, p2⟩
    have pb : Pxv wb wr.heap.size x := pa.chg k2 ND.out.2
    have HN1 : Hid (∃ S X r g D s, JRun V wb a j (3 + (k + 1)) S X r g D s) := jz ⟨_, _, _, _, _, _, p2⟩
    clear k2 p2 CS
    refine hK.out _ _ ?_ (fun hHeld => ?_)
    focus (exact pb)
    clear hK K
    try simp only [Act.put, List.setIfInBounds_toArray, List.set_cons_zero, List.set_cons_succ]
    refine wpAnyH_take (i := 6) (oi := ⟨some 82, _, _, _, _, _⟩) (v := ?_) rfl (by kernel_rfl) (by kernel_rfl) (by kernel_rfl) (fun _ _ _ h => h) (Or.inl ⟨by rfl, ?_⟩) (by assumption) ?_
    rotate_left
    focus (intro w hSw; (try dsimp only at hSw); go_simp; try with_reducible rfl)
    try simp only [Act.put, List.setIfInBounds_toArray, List.set_cons_zero, List.set_cons_succ]
    refine wpAnyH_done (by kernel_rfl) ?_ _
    clear ldx p9d pa pb
    go_wp2_with fail
    go_roundw
    case rel => exact ⟨k + 1, by have := HK.out; omega, by go_num, HN1⟩
    case measure => have := HK.out; simp [intOf]; omega
  · obtain rfl : k = l1.length := by omega
    obtain ⟨S1, X1, r1, g1, D1, s1, hrun⟩ := H.out
    have B9 := jz (below_more HV.out.2 hrun.b)
    clear hrun H hk hlt
    go_wp2_with fail
    refine (awake_any _).mono ?_; rintro e w8 ⟨rfl, b8⟩
    have D8 := jz (below_more B9.out b8)
    go_wp2_with fail
    go_ret
    exact ⟨rfl, D8.out⟩
set_option maxRecDepth 100000 in
theorem lifted (os : Os) (started : os.Started) (H : Type) (enc : TypeId × Value → H) :
 ReturnsInHanded {} Tryz.checked os 3 .any (Rows.judgeHeapSpec.pre6 enc Tryz.prog Tryz.f3 Rows.judgeHeapRow.domain false) (Rows.judgeHeapSpec.post enc Tryz.prog Tryz.f3 false true false false) := by
 refine returnsInHanded_of_change (C := Tryz.checked) own started (by kernel_rfl) Tryz.func3
  (ChangeSpec.witness6 (enc := enc) (C := Tryz.checked) false ⟨#[], #[.agg #[.int .i64 0, .int .i64 0, .int .i64 0, .int .i64 0], .slice none 0 0, .slice none 0 0], []⟩ 8 (by kernel_rfl) (by kernel_rfl) (by kernel_rfl) (by kernel_rfl)) ?_
 intro W base args ds gs before hval0 hW hcnd _
 have hval : ∀ (j : Nat) t v, Tryz.f3.params[j]? = some t → args[j]? = some v → Value.okWide Tryz.prog W .any base t v := hval0
 have hW' := hW
 have hlt := hW.lt
 obtain ⟨p, q, hA0, hV, hpq, hfz, hnd⟩ := hW
 have hA : DataW.TrodAll enc Tryz.prog W 0 (fun _ => true) true Tryz.f3.params.toList args.toList ds p := hA0
 rw [Tryz.params3] at hA hval
 obtain ⟨v0, vs0, d0, ds0, p0, q0, hargs, rfl, hp, h0, r0⟩ := trodAll_cons hA
 obtain ⟨v1, vs1, d1, ds1, p1, q1, rfl, rfl, rfl, h1, r1⟩ := trodAll_cons r0
 obtain ⟨v2, vs2, d2, ds2, p2, q2, rfl, rfl, rfl, h2, r2⟩ := trodAll_cons r1
 obtain ⟨rfl, rfl, rfl⟩ := trodAll_nil r2
 obtain rfl : args = #[v0, v1, v2] := by cases args; simp_all
 obtain ⟨rfl, rfl⟩ := trodVars_none hV
 have hlt' : ∀ x ∈ before, x.block < W.heap.size := fun x hx => hlt x hx
 obtain ⟨c0, e0, g0, k0, rfl, w0⟩ := plan_in (hval 0 23 v0 rfl rfl) h0
 obtain ⟨l1, w1⟩ := ints_in Tryz.underlying24 Tryz.underlying3 (by kernel_rfl) (hval 1 24 v1 rfl rfl) (fun x hx => hlt' x (by rw [hpq, hp]; simp [hx])) h1
 obtain ⟨l2, w2⟩ := hops_in (hval 2 25 v2 rfl rfl) h2
 refine (walk c0 e0 g0 k0 l1 v1 l2 v2 W w0 w1 w2).mono fun e W' ⟨he, hb⟩ => ?_
 subst he
 exact ⟨_, rfl, law_post rfl (by kernel_rfl) hW' (by rw [Tryz.params3]; intro t ht; simp only [List.mem_cons, List.not_mem_nil, or_false] at ht; (repeat' (first | (rcases ht with rfl | ht) | subst ht)) <;> exact ⟨by kernel_rfl, of_decide_eq_true (by kernel_rfl)⟩) rfl hb⟩
theorem over : Rows.judgeHeapRow.holds Tryz.pinned (OpenSpec.ofChange Rows.judgeHeapSpec) :=
 OpenClaim.holds_of_wide 3 Tryz.f3 rfl rfl rfl rfl rfl rfl rfl ⟨rfl, rfl, rfl, rfl, rfl⟩ rfl rfl rfl rfl rfl (by kernel_rfl) Tryz.func3 (by kernel_rfl)
  (of_decide_eq_true (by kernel_rfl)) (by unfold Func.isWrapper; first | (rw [if_pos (by decide +kernel)]; kernel_rfl) | (rw [if_neg (by decide +kernel)]; exact ⟨rfl, rfl⟩))
  (fun os started H enc _ => lifted os started H enc)
theorem proved : Rows.JudgeHeapSaid := over
end Go.Proofs.YtkpefnjohdjejaaGreat.judgeHeap
