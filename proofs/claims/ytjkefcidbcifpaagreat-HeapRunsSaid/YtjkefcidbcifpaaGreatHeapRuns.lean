/-
  Without power cuts the answers are a run of the model, till a line fails and no spare is left. No conditions.
-/
import Derived.Test.YtjkefcidbcifpaaGreatZnf
namespace Go.Proofs.YtjkefcidbcifpaaGreat.heapRuns
set_option maxRecDepth 100000
open Go.Proofs.YtjkefcidbcifpaaGreat Go.ChangeShapes Go.WideShapes Go.ChangeAt Go.RowKit
set_option maxRecDepth 100000 in
set_option maxHeartbeats 8000000 in
theorem walk (c0 e0 g0 k0 : Int) (lim : List Int) (vl : Value) (l1 : List Px) (v1 : Value) (w : World) (_ : (Lit.int .i64 c0).wf = true ∧ (Lit.int .i64 e0).wf = true ∧ (Lit.int .i64 g0).wf = true ∧ (Lit.int .i64 k0).wf = true) (wl0 : IntsIn .i64 w vl lim) (w1 : RA (opE w) w v1 l1) :
 Calls Tryz.prog 3 #[(Value.agg #[Value.int IntKind.i64 c0, Value.int IntKind.i64 e0, Value.int IntKind.i64 g0, Value.int IntKind.i64 k0]), vl, v1] w fun e w' => e = .returned (.bool true) ∧ Below w.heap.size w w' := by
 have wl := ri_in wl0
 obtain ⟨W, hW, H0⟩ := plan_boxed w c0 e0 g0 k0
 have PQ := Lib.hid H0.out.1
 have HB := Lib.hid H0.out.2
 have WL := Lib.hid wl
 obtain ⟨p1, q1, rfl, _⟩ := ra_shape w1
 obtain ⟨pl, ql, rfl, _⟩ := wl
 have W1 := Lib.hid w1
 have HV1 := Lib.hid (heavy21b l1 lim _ (.slice pl lim.length ql) (ra_below w1 HB.out) (ri_below WL.out HB.out))
 have PW := Lib.hid (plan_raw c0 e0 g0 k0)
 clear w1 H0 wl0
 go_enter Tryz.func3, Tryz.ntmps3
 go_wp2_with fail
 refine (HV1.out).mono ?_; rintro e w4 ⟨⟨R, rfl, hr1, hl1⟩, b4⟩
 have B4 := Lib.hid b4
 clear b4
 by_cases h0 : R = 0
 rotate_left
 · have i1 : (R : Int) > 0 := by omega
   have i2 : 0 < R := by omega
   clear h0 hr1 hl1
   go_wp2_with fail
   refine (awake_any _).mono ?_; rintro e w5 ⟨rfl, b5⟩
   have D5 := Lib.hid (below_more HB.out (below_more B4.out b5))
   go_wp2_with fail
   go_ret
   exact ⟨rfl, D5.out⟩
 have L1 := Lib.hid (hl1 (by omega))
 have i1 : ¬ (R : Int) > 0 := by omega
 have i2 : ¬ 0 < R := by omega
 have PQ4 := Lib.hid (PQ.out.below B4.out)
 have a0 := PQ4.out.c0
 have a1 := PQ4.out.c1
 have a2 : w4.cell? ⟨w.heap.size, 2, none⟩ = some (.int .i64 g0) := Whole.at_ PQ4.out 2
 have a3 : w4.cell? ⟨w.heap.size, 3, none⟩ = some (.int .i64 k0) := Whole.at_ PQ4.out 3
 clear h0 hr1 hl1 HV1
 go_wp2_with fail
 refine (PW.out _).mono ?_; rintro e w5 ⟨⟨N, P, per, b, rfl, hN⟩, b5⟩
 have HN := Lib.hid hN
 have PQ5 := Lib.hid (PQ4.out.below b5)
 have B5 := Lib.hid (below_more HB.out (below_more B4.out b5))
 clear b5 hN a0 a1 a2 a3
 have hst := PQ5.out.pstore (l' := (N : Int)) (s' := (P : Int)) (p' := (per : Int)) (b' := (b : Int))
 have HV := Lib.hid (And.intro (PQ5.out.pput (l' := (N : Int)) (s' := (P : Int)) (p' := (per : Int)) (b' := (b : Int))) (show Below w.heap.size w (w5.setRow w.heap.size #[Value.int IntKind.i64 (N : Int), Value.int IntKind.i64 (P : Int), Value.int IntKind.i64 (per : Int), Value.int IntKind.i64 (b : Int)]) from below_row B5.out (Nat.le_refl _)))
 obtain ⟨V, hV⟩ : ∃ V, w5.setRow w.heap.size #[Value.int IntKind.i64 (N : Int), Value.int IntKind.i64 (P : Int), Value.int IntKind.i64 (per : Int), Value.int IntKind.i64 (b : Int)] = V := ⟨_, rfl⟩
 rw [hV] at hst HV
 have lV := HV.out.1.load
 have MD := Lib.hid (made_is (w := V) (N := N) (P := P) (per := per) (b := b) (v := .slice pl lim.length ql) (lim := lim) (by have := HN.out; unfold MayN; omega) (ri_below WL.out HV.out.2))
 go_wp2_with fail
 refine (MD.out).mono ?_; rintro e w6 ⟨b6, ⟨a, S, ha, rfl, hnew, hp, hi, hw, hco, hfr, hct⟩ | ⟨hl, gm, rfl⟩⟩
 rotate_left
 · have i5 : 0 < lim.length := by
    rcases lim with _ | ⟨y, t⟩
    · exact absurd rfl hl
    · simp
   have i6 : (lim.length : Int) > 0 := by omega
   have B6 := Lib.hid (below_more HV.out.2 b6)
   clear hl b6 MD hst lV
   go_wp2_with fail
   refine (awake_any _).mono ?_; rintro e w7 ⟨rfl, b7⟩
   have D7 := Lib.hid (below_more B6.out b7)
   go_wp2_with fail
   go_ret
   exact ⟨rfl, D7.out⟩
 have B6 := Lib.hid b6
 have H6 := Lib.hid (And.intro hp (And.intro hi hco))
 have HA := Lib.hid ha
 have LO : Hid (∀ k ∈ a.D, V.heap.size ≤ k) := Lib.hid (by
  intro k hk
  simp only [Ha.D, List.mem_cons, List.not_mem_nil, or_false] at hk
  rcases hk with rfl | rfl | rfl | rfl <;> omega)
 have a0 := (HV.out.1.below b6).c0
 clear b6 hp hi hco hfr hw hct hnew ha lV hst MD
 have i8 : IntKind.i64.wrap ((N : Int) * 8) = ((8 * N : Nat) : Int) := by rw [show (N : Int) * 8 = ((8 * N : Nat) : Int) by omega]; exact i64_nat _ (by have := HN.out; omega)
 have C7 := Lib.hid (rnew_yes (8 * N) (by have := HN.out; unfold Mw; omega) w6)
 go_wp2_with fail
 refine (C7.out).mono ?_; rintro e w7 ⟨⟨g, rfl, hg, _, hR⟩, b7⟩
 have HR7 := Lib.hid (hrun_new (w0 := V) (fr := false) H6.out.1 H6.out.2.1 H6.out.2.2 (fun q => by cases q) LO.out B6.out.size hg b7 B6.out hR)
 clear hR hg b7 C7 i8 a0 H6 B6 LO
 have HL1 := Lib.hid L1.out.len
 go_wp2
 go_loopw [46] (fun i wr => ∃ k : Nat, k ≤ l1.length ∧ i = .int .i64 k ∧ Hid (∃ S X r lb, HRun V wr a g (3 + k) false S X r lb)) (fun i _ => l1.length - (intOf i).toNat)
 case atStart => exact ⟨0, Nat.zero_le _, rfl, Lib.hid ⟨_, _, _, _, HR7.out⟩⟩
 case round =>
  clear HR7
  obtain ⟨k, hk, rfl, H⟩ := hrel
  by_cases hlt : k < l1.length
  · obtain ⟨S1, X1, r1, lb1, hrun⟩ := H.out
    obtain ⟨bb, off, hpp, _, hx⟩ := px_at (ra_below W1.out (below_more HV.out.2 hrun.b)) (by omega)
    subst hpp
    obtain ⟨hld, hwf⟩ := hx k hlt
    have hbl := L1.out.bl k hlt
    have i0 : (0 : Int) ≤ (k : Int) := by omega
    have i1 : (k : Int) < (l1.length : Int) := by omega
    have i3 : ¬ (k : Int) < 0 := by omega
    have i4 : IntKind.i64.wrap ((k : Int) + 1) = ((k + 1 : Nat) : Int) := by rw [show (k : Int) + 1 = ((k + 1 : Nat) : Int) by omega]; exact i64_nat _ (by have := HL1.out; omega)
    have HK := Lib.hid hlt
    clear hx hk hlt
    generalize l1.getD k default = x at *
    obtain ⟨W9, hW9, hst, HB9⟩ := px_boxed wr x hwf.one
    have b9 : Below wr.heap.size wr W9.drew := HB9.out.2.drew
    have R9 := Lib.hid (hrun.below b9)
    have C := Lib.hid (R9.out.step x (by have := HK.out; have := HL1.out; omega) (hwf.up_h HV.out.2) (by omega))
    have ldx : (pxLoad (.pointer (some ⟨wr.heap.size, 0, none⟩))).run Tryz.prog W9.drew = .ok (.agg (pxc x)) W9.drew := run_pxLoad fun j u hj => by rw [Whole.at_ (HB9.out.1.below (Below.refl _ _).drew), Nat.zero_add, ← hj]; simp [pxc]
    clear hrun hwf hbl H b9
    go_wp2_with fail
    refine wp_region_any (by kernel_rfl) ?_
    try (change wpAny _ _ _ _ _ _ _ (World.drew _))
    refine wpAny_take (i := 0) (v := ?_) rfl (by kernel_rfl) (by kernel_rfl) (by kernel_rfl) (fun _ _ _ h => h) (Or.inl ⟨by rfl, ?_⟩) ?_
    rotate_left
    · intro w
      go_simp
      try with_reducible rfl
    refine wpAny_take (i := 1) (v := ?_) rfl (by kernel_rfl) (by kernel_rfl) (by kernel_rfl) (fun _ _ _ h => h) (Or.inl ⟨by rfl, ?_⟩) ?_
    rotate_left
    · intro w
      go_simp
      try with_reducible rfl
    refine wpAny_ready (rs := [2]) (by kernel_rfl) (by simp) ?_
    refine AllReady.cons rfl (fun K hK => ?_) AllReady.nil
    go_simp
    refine hK _ _ ?_; clear hK K
    refine wpAny_ready (rs := [3]) (by kernel_rfl) (by simp) ?_
    refine AllReady.cons rfl (fun K hK => ?_) AllReady.nil
    go_simp
    go_at_call 17
    refine (C.out).mono ?_; rintro e wa ⟨rfl, _, S2, X2, r2, lb2, h2, _⟩
    have RA := Lib.hid h2
    clear h2 C ldx
    have CS := Lib.hid (says_is RA.out.hp RA.out.hi (by have := HK.out; have := HL1.out; omega) RA.out.co RA.out.rm)
    refine hK _ _ ?_; clear hK K
    refine wpAny_ready (rs := [4]) (by kernel_rfl) (by simp) ?_
    refine AllReady.cons rfl (fun K hK => ?_) AllReady.nil
    go_simp
    refine hK _ _ ?_; clear hK K
    refine wpAny_ready (rs := [5]) (by kernel_rfl) (by simp) ?_
    refine AllReady.cons rfl (fun K hK => ?_) AllReady.nil
    go_simp
    refine hK _ _ ?_; clear hK K
    refine wpAny_take (i := 6) (v := ?_) rfl (by kernel_rfl) (by kernel_rfl) (by kernel_rfl) (fun _ _ _ h => h) (Or.inl ⟨by rfl, ?_⟩) ?_
    rotate_left
    · intro w
      go_simp
      try with_reducible rfl
    refine wpAny_ready (rs := [7]) (by kernel_rfl) (by simp) ?_
    refine AllReady.cons rfl (fun K hK => ?_) AllReady.nil
    go_simp
    refine hK _ _ ?_; clear hK K
    refine wpAny_ready (rs := [8]) (by kernel_rfl) (by simp) ?_
    refine AllReady.cons rfl (fun K hK => ?_) AllReady.nil
    go_simp
    go_at_call 18
    refine (CS.out).mono ?_; rintro e wb ⟨rfl, bb2⟩
    have RB := Lib.hid (RA.out.below bb2)
    clear bb2 CS RA
    obtain ⟨T, hT⟩ : ∃ T, leftT (S2.s.tb a.P) = T := ⟨_, rfl⟩
    have CL := Lib.hid (fun w2 (q : HRun V w2 a g (3 + k + 1) false S2 X2 r2 lb2) => hleft_is q.hp q.hi.hc.lg q.hi.live)
    rw [hT] at CL
    have TP : Hid (T ≤ P ∧ (S2.worn = true → T = 0)) := Lib.hid (by
     refine ⟨?_, fun h => ?_⟩
     · have := leftT_le (S2.s.tb a.P)
       rw [Nv.tb_length, hT, HA.out.2.1] at this
       exact this
     · rw [← hT]
       refine RB.out.hi.wl ?_
       unfold Hs.worn at h
       rcases (Bool.or_eq_true _ _).mp h with h | h
       · exact .inl h
       · exact .inr (of_decide_eq_true h))
    have z0 : decide (P < T) = false := decide_eq_false (by have := TP.out; omega)
    clear hT
    refine hK _ _ ?_; clear hK K
    refine wpAny_ready (rs := [9]) (by kernel_rfl) (by simp) ?_
    refine AllReady.cons rfl (fun K hK => ?_) AllReady.nil
    go_simp
    refine hK _ _ ?_; clear hK K
    refine wpAny_ready (rs := [10]) (by kernel_rfl) (by simp) ?_
    refine AllReady.cons rfl (fun K hK => ?_) AllReady.nil
    go_simp
    refine hK _ _ ?_; clear hK K
    refine wpAny_ready (rs := [11]) (by kernel_rfl) (by simp) ?_
    refine AllReady.cons rfl (fun K hK => ?_) AllReady.nil
    go_simp
    refine hK _ _ ?_; clear hK K
    refine wpAny_ready (rs := [12]) (by kernel_rfl) (by simp) ?_
    refine AllReady.cons rfl (fun K hK => ?_) AllReady.nil
    go_simp
    refine hK _ _ ?_; clear hK K
    refine wpAny_ready (rs := [13]) (by kernel_rfl) (by simp) ?_
    refine AllReady.cons rfl (fun K hK => ?_) AllReady.nil
    go_simp
    go_at_call 19
    refine (CL.out _ RB.out).mono ?_; rintro e wc ⟨rfl, bc⟩
    have RC := Lib.hid (RB.out.below bc)
    clear bc RB
    have sc := (HV.out.1.below RC.out.b).c1
    refine hK _ _ ?_; clear hK K
    refine wpAny_ready (rs := [14]) (by kernel_rfl) (by simp) ?_
    refine AllReady.cons rfl (fun K hK => ?_) AllReady.nil
    go_simp
    refine hK _ _ ?_; clear hK K
    refine wpAny_ready (rs := [15]) (by kernel_rfl) (by simp) ?_
    refine AllReady.cons rfl (fun K hK => ?_) AllReady.nil
    go_simp
    refine hK _ _ ?_; clear hK K
    refine wpAny_ready (rs := [16]) (by kernel_rfl) (by simp) ?_
    refine AllReady.cons rfl (fun K hK => ?_) AllReady.nil
    go_simp
    refine hK _ _ ?_; clear hK K
    refine wpAny_take (i := 17) (v := ?_) rfl (by kernel_rfl) (by kernel_rfl) (by kernel_rfl) (fun _ _ _ h => h) (Or.inl ⟨by rfl, ?_⟩) ?_
    rotate_left
    · intro w
      go_simp
      try with_reducible rfl
    refine wpAny_take (i := 19) (v := ?_) rfl (by kernel_rfl) (by kernel_rfl) (by kernel_rfl) (fun _ _ _ h => h) (Or.inl ⟨by rfl, ?_⟩) ?_
    rotate_left
    · intro w
      go_simp
      try with_reducible rfl
    refine wpAny_ready (rs := [18, 20]) (by kernel_rfl) (by simp) ?_
    refine AllReady.cons rfl (fun K hK => ?_) (AllReady.cons rfl (fun K hK => ?_) AllReady.nil)
    · go_simp
      go_at_call 19
      refine (CL.out _ RC.out).mono ?_; rintro e wd ⟨rfl, bd⟩
      have RD := Lib.hid (RC.out.below bd)
      clear bd sc
      have sd := (HV.out.1.below RD.out.b).c1
      have CW := Lib.hid (hworn_is RD.out.hp RD.out.hi.live RD.out.hi.hc.lg.r1)
      obtain ⟨wn, hwn⟩ : ∃ wn, S2.worn = wn := ⟨_, rfl⟩
      rw [hwn] at CW
      have WN := Lib.hid hwn
      clear hwn
      refine hK _ _ ?_; clear hK K
      refine wpAny_ready (rs := [20]) (by kernel_rfl) (by simp) ?_
      refine AllReady.cons rfl (fun K hK => ?_) AllReady.nil
      go_simp
      refine hK _ _ ?_; clear hK K
      refine wpAny_ready (rs := [21]) (by kernel_rfl) (by simp) ?_
      refine AllReady.cons rfl (fun K hK => ?_) AllReady.nil
      go_simp
      refine hK _ _ ?_; clear hK K
      refine wpAny_ready (rs := [22]) (by kernel_rfl) (by simp) ?_
      refine AllReady.cons rfl (fun K hK => ?_) AllReady.nil
      go_simp
      refine hK _ _ ?_; clear hK K
      refine wpAny_ready (rs := [23]) (by kernel_rfl) (by simp) ?_
      refine AllReady.cons rfl (fun K hK => ?_) AllReady.nil
      go_simp
      refine hK _ _ ?_; clear hK K
      refine wpAny_ready (rs := [24]) (by kernel_rfl) (by simp) ?_
      refine AllReady.cons rfl (fun K hK => ?_) AllReady.nil
      go_simp
      refine hK _ _ ?_; clear hK K
      refine wpAny_ready (rs := [25]) (by kernel_rfl) (by simp) ?_
      refine AllReady.cons rfl (fun K hK => ?_) AllReady.nil
      go_simp
      go_at_call 20
      refine (CW.out).mono ?_; rintro e we ⟨rfl, rfl⟩
      refine hK _ _ ?_; clear hK K
      refine wpAny_ready (rs := [26]) (by kernel_rfl) (by simp) ?_
      refine AllReady.cons rfl (fun K hK => ?_) AllReady.nil
      go_simp
      refine hK _ _ ?_; clear hK K
      rcases wn with _ | _
      · refine wpAny_ready (rs := [27]) (by kernel_rfl) (by simp) ?_
        refine AllReady.cons rfl (fun K hK => ?_) AllReady.nil
        go_simp
        refine hK _ _ ?_; clear hK K
        refine wpAny_ready (rs := [28]) (by kernel_rfl) (by simp) ?_
        refine AllReady.cons rfl (fun K hK => ?_) AllReady.nil
        go_simp
        refine hK _ _ ?_; clear hK K
        refine wpAny_ready (rs := [29]) (by kernel_rfl) (by simp) ?_
        refine AllReady.cons rfl (fun K hK => ?_) AllReady.nil
        go_simp
        refine hK _ _ ?_; clear hK K
        refine wpAny_ready (rs := [30]) (by kernel_rfl) (by simp) ?_
        refine AllReady.cons rfl (fun K hK => ?_) AllReady.nil
        go_simp
        refine hK _ _ ?_; clear hK K
        refine wpAny_ready (rs := [31]) (by kernel_rfl) (by simp) ?_
        refine AllReady.cons rfl (fun K hK => ?_) AllReady.nil
        go_simp
        refine hK _ _ ?_; clear hK K
        refine wpAny_done (by kernel_rfl) ?_ _
        have HN1 : Hid (∃ S X r lb, HRun V wd a g (3 + (k + 1)) false S X r lb) := Lib.hid ⟨_, _, _, _, RD.out⟩
        go_wp2_with fail
        go_roundw
        case rel => exact ⟨k + 1, by have := HK.out; omega, by go_num, HN1⟩
        case measure => have := HK.out; simp [intOf]; omega
      · obtain rfl : T = 0 := TP.out.2 WN.out
        refine wpAny_ready (rs := [27]) (by kernel_rfl) (by simp) ?_
        refine AllReady.cons rfl (fun K hK => ?_) AllReady.nil
        go_simp
        refine hK _ _ ?_; clear hK K
        refine wpAny_ready (rs := [28]) (by kernel_rfl) (by simp) ?_
        refine AllReady.cons rfl (fun K hK => ?_) AllReady.nil
        go_simp
        go_at_call 19
        refine (CL.out _ RD.out).mono ?_; rintro e wf ⟨rfl, bf⟩
        have RD := Lib.hid (RD.out.below bf)
        clear bf
        refine hK _ _ ?_; clear hK K
        refine wpAny_ready (rs := [29]) (by kernel_rfl) (by simp) ?_
        refine AllReady.cons rfl (fun K hK => ?_) AllReady.nil
        go_simp
        refine hK _ _ ?_; clear hK K
        refine wpAny_ready (rs := [30]) (by kernel_rfl) (by simp) ?_
        refine AllReady.cons rfl (fun K hK => ?_) AllReady.nil
        go_simp
        refine hK _ _ ?_; clear hK K
        refine wpAny_ready (rs := [31]) (by kernel_rfl) (by simp) ?_
        refine AllReady.cons rfl (fun K hK => ?_) AllReady.nil
        go_simp
        refine hK _ _ ?_; clear hK K
        refine wpAny_done (by kernel_rfl) ?_ _
        have HN1 : Hid (∃ S X r lb, HRun V wf a g (3 + (k + 1)) false S X r lb) := Lib.hid ⟨_, _, _, _, RD.out⟩
        go_wp2_with fail
        go_roundw
        case rel => exact ⟨k + 1, by have := HK.out; omega, by go_num, HN1⟩
        case measure => have := HK.out; simp [intOf]; omega
    · go_simp
      refine hK _ _ ?_; clear hK K
      refine wpAny_ready (rs := [18]) (by kernel_rfl) (by simp) ?_
      refine AllReady.cons rfl (fun K hK => ?_) AllReady.nil
      go_simp
      go_at_call 19
      refine (CL.out _ RC.out).mono ?_; rintro e wd ⟨rfl, bd⟩
      have RD := Lib.hid (RC.out.below bd)
      clear bd sc
      have sd := (HV.out.1.below RD.out.b).c1
      have CW := Lib.hid (hworn_is RD.out.hp RD.out.hi.live RD.out.hi.hc.lg.r1)
      obtain ⟨wn, hwn⟩ : ∃ wn, S2.worn = wn := ⟨_, rfl⟩
      rw [hwn] at CW
      have WN := Lib.hid hwn
      clear hwn
      refine hK _ _ ?_; clear hK K
      refine wpAny_ready (rs := [21]) (by kernel_rfl) (by simp) ?_
      refine AllReady.cons rfl (fun K hK => ?_) AllReady.nil
      go_simp
      refine hK _ _ ?_; clear hK K
      refine wpAny_ready (rs := [22]) (by kernel_rfl) (by simp) ?_
      refine AllReady.cons rfl (fun K hK => ?_) AllReady.nil
      go_simp
      refine hK _ _ ?_; clear hK K
      refine wpAny_ready (rs := [23]) (by kernel_rfl) (by simp) ?_
      refine AllReady.cons rfl (fun K hK => ?_) AllReady.nil
      go_simp
      refine hK _ _ ?_; clear hK K
      refine wpAny_ready (rs := [24]) (by kernel_rfl) (by simp) ?_
      refine AllReady.cons rfl (fun K hK => ?_) AllReady.nil
      go_simp
      refine hK _ _ ?_; clear hK K
      refine wpAny_ready (rs := [25]) (by kernel_rfl) (by simp) ?_
      refine AllReady.cons rfl (fun K hK => ?_) AllReady.nil
      go_simp
      go_at_call 20
      refine (CW.out).mono ?_; rintro e we ⟨rfl, rfl⟩
      refine hK _ _ ?_; clear hK K
      refine wpAny_ready (rs := [26]) (by kernel_rfl) (by simp) ?_
      refine AllReady.cons rfl (fun K hK => ?_) AllReady.nil
      go_simp
      refine hK _ _ ?_; clear hK K
      rcases wn with _ | _
      · refine wpAny_ready (rs := [27]) (by kernel_rfl) (by simp) ?_
        refine AllReady.cons rfl (fun K hK => ?_) AllReady.nil
        go_simp
        refine hK _ _ ?_; clear hK K
        refine wpAny_ready (rs := [28]) (by kernel_rfl) (by simp) ?_
        refine AllReady.cons rfl (fun K hK => ?_) AllReady.nil
        go_simp
        refine hK _ _ ?_; clear hK K
        refine wpAny_ready (rs := [29]) (by kernel_rfl) (by simp) ?_
        refine AllReady.cons rfl (fun K hK => ?_) AllReady.nil
        go_simp
        refine hK _ _ ?_; clear hK K
        refine wpAny_ready (rs := [30]) (by kernel_rfl) (by simp) ?_
        refine AllReady.cons rfl (fun K hK => ?_) AllReady.nil
        go_simp
        refine hK _ _ ?_; clear hK K
        refine wpAny_ready (rs := [31]) (by kernel_rfl) (by simp) ?_
        refine AllReady.cons rfl (fun K hK => ?_) AllReady.nil
        go_simp
        refine hK _ _ ?_; clear hK K
        refine wpAny_done (by kernel_rfl) ?_ _
        have HN1 : Hid (∃ S X r lb, HRun V wd a g (3 + (k + 1)) false S X r lb) := Lib.hid ⟨_, _, _, _, RD.out⟩
        go_wp2_with fail
        go_roundw
        case rel => exact ⟨k + 1, by have := HK.out; omega, by go_num, HN1⟩
        case measure => have := HK.out; simp [intOf]; omega
      · obtain rfl : T = 0 := TP.out.2 WN.out
        refine wpAny_ready (rs := [27]) (by kernel_rfl) (by simp) ?_
        refine AllReady.cons rfl (fun K hK => ?_) AllReady.nil
        go_simp
        refine hK _ _ ?_; clear hK K
        refine wpAny_ready (rs := [28]) (by kernel_rfl) (by simp) ?_
        refine AllReady.cons rfl (fun K hK => ?_) AllReady.nil
        go_simp
        go_at_call 19
        refine (CL.out _ RD.out).mono ?_; rintro e wf ⟨rfl, bf⟩
        have RD := Lib.hid (RD.out.below bf)
        clear bf
        refine hK _ _ ?_; clear hK K
        refine wpAny_ready (rs := [29]) (by kernel_rfl) (by simp) ?_
        refine AllReady.cons rfl (fun K hK => ?_) AllReady.nil
        go_simp
        refine hK _ _ ?_; clear hK K
        refine wpAny_ready (rs := [30]) (by kernel_rfl) (by simp) ?_
        refine AllReady.cons rfl (fun K hK => ?_) AllReady.nil
        go_simp
        refine hK _ _ ?_; clear hK K
        refine wpAny_ready (rs := [31]) (by kernel_rfl) (by simp) ?_
        refine AllReady.cons rfl (fun K hK => ?_) AllReady.nil
        go_simp
        refine hK _ _ ?_; clear hK K
        refine wpAny_done (by kernel_rfl) ?_ _
        have HN1 : Hid (∃ S X r lb, HRun V wf a g (3 + (k + 1)) false S X r lb) := Lib.hid ⟨_, _, _, _, RD.out⟩
        go_wp2_with fail
        go_roundw
        case rel => exact ⟨k + 1, by have := HK.out; omega, by go_num, HN1⟩
        case measure => have := HK.out; simp [intOf]; omega
  · obtain rfl : k = l1.length := by omega
    obtain ⟨S1, X1, r1, lb1, hrun⟩ := H.out
    have R1 := Lib.hid hrun
    clear hrun H hk hlt
    obtain ⟨n, hn⟩ : ∃ n, (N + 3) / 4 = n := ⟨_, rfl⟩
    have hct : S1.ct.n = n := by have := R1.out.hi.cn; rw [HA.out.1] at this; omega
    have hcl : S1.ct.ints.length = n := (byF_length _ _).trans hct
    have NN : Hid (n ≤ 16) := Lib.hid (by have := HN.out; omega)
    have C1 := Lib.hid (fun w' (hb : Kept (Below wr.heap.size wr w')) => (show Calls Tryz.prog 21 #[.pointer (some ⟨a.z, 0, none⟩)] w' fun e w2 => (∃ q c, e = .returned (.slice q n c)) ∧ Below w'.heap.size w' w2 from by
     refine (hcnt_is (R1.out.hp.below hb.out) (by have := NN.out; omega)).mono ?_
     rintro e w2 ⟨⟨v, rfl, o⟩, b2⟩
     obtain ⟨q, c, rfl, _⟩ := o.ri
     rw [hcl]
     exact ⟨⟨q, c, rfl⟩, b2⟩))
    have C2 := Lib.hid (fun w' => pages_yes (l := N) (s := P) (p := per) (b := b) (by have := HN.out; unfold MayN; omega) hn w')
    have lP : ∀ w', Kept (Below wr.heap.size wr w') → (planLoad (.pointer (some ⟨w.heap.size, 0, none⟩))).run Tryz.prog w' = .ok (Value.agg #[Value.int IntKind.i64 (N : Int), Value.int IntKind.i64 (P : Int), Value.int IntKind.i64 (per : Int), Value.int IntKind.i64 (b : Int)]) w' := fun w' hb => (HV.out.1.below (below_more R1.out.b hb.out)).load
    clear hct hcl hn
    go_wp2_with fail
    go_region_held3 (fun w' => Kept (Below wr.heap.size wr w'))
     (first | assumption | exact ⟨(Below.refl _ _).drew⟩)
     (first
       | (go_at_call 13; refine (awake_any _).mono ?_; rintro e x3 ⟨rfl, b3⟩
          have K3 : Kept (Below wr.heap.size wr x3) := ⟨below_more K2.out b3⟩
          clear b3)
       | (go_at_call 22; refine (C2.out _).mono ?_; rintro e x2 ⟨rfl, b2⟩
          have K2 : Kept (Below wr.heap.size wr x2) := ⟨below_more K1.out b2⟩
          clear b2)
       | (go_at_call 21; refine (C1.out _ (by assumption)).mono ?_; rintro e x1 ⟨⟨q, c, rfl⟩, b1⟩
          have K1 : Kept (Below wr.heap.size wr x1) := ⟨below_more (Below.refl _ _).drew b1⟩
          clear b1))
    have D6 := Lib.hid (below_more HV.out.2 (below_more R1.out.b K3.out))
    go_wp2_with fail
    go_ret
    exact ⟨rfl, D6.out⟩
set_option maxRecDepth 100000 in
theorem lifted (os : Os) (started : os.Started) (H : Type) (enc : TypeId × Value → H) :
 ReturnsInHanded {} Tryz.checked os 3 .any (Rows.heapRunsSpec.pre6 enc Tryz.prog Tryz.f3 Rows.heapRunsRow.domain false) (Rows.heapRunsSpec.post enc Tryz.prog Tryz.f3 false true false false) := by
 refine returnsInHanded_of_change (C := Tryz.checked) own started (by kernel_rfl) Tryz.func3
  (ChangeSpec.witness6 (enc := enc) (C := Tryz.checked) false ⟨#[], #[.agg #[.int .i64 0, .int .i64 0, .int .i64 0, .int .i64 0], .slice none 0 0, .slice none 0 0], []⟩ 8 (by kernel_rfl) (by kernel_rfl) (by kernel_rfl) (by kernel_rfl)) ?_
 intro W base args ds gs before hval0 hW hcnd _
 have hval : ∀ (j : Nat) t v, Tryz.f3.params[j]? = some t → args[j]? = some v → Value.okWide Tryz.prog W .any base t v := hval0
 have hW' := hW
 have hlt := hW.lt
 obtain ⟨p, q, hA0, hV, hpq, hfz, hnd⟩ := hW
 have hA : DataW.TrodAll enc Tryz.prog W 0 (fun _ => true) true Tryz.f3.params.toList args.toList ds p := hA0
 rw [Tryz.params3] at hA hval
 obtain ⟨v0, vs0, d0, ds0, p0, q0, hargs, rfl, hp, h0, r0⟩ := trodAll_cons hA
 obtain ⟨v1, vs1, d1, ds1, p1, q1, rfl, rfl, rfl, h1, r1⟩ := trodAll_cons r0
 obtain ⟨v2, vs2, d2, ds2, p2, q2, rfl, rfl, rfl, h2, r2⟩ := trodAll_cons r1
 obtain ⟨rfl, rfl, rfl⟩ := trodAll_nil r2
 obtain rfl : args = #[v0, v1, v2] := by cases args; simp_all
 obtain ⟨rfl, rfl⟩ := trodVars_none hV
 have hlt' : ∀ x ∈ before, x.block < W.heap.size := fun x hx => hlt x hx
 obtain ⟨c0, e0, g0, k0, rfl, w0⟩ := plan_in (hval 0 23 v0 rfl rfl) h0
 obtain ⟨l1, w1⟩ := ints_in Tryz.underlying24 Tryz.underlying3 (by kernel_rfl) (hval 1 24 v1 rfl rfl) (fun x hx => hlt' x (by rw [hpq, hp]; simp [hx])) h1
 obtain ⟨l2, w2⟩ := hops_in (hval 2 25 v2 rfl rfl) h2
 refine (walk c0 e0 g0 k0 l1 v1 l2 v2 W w0 w1 w2).mono fun e W' ⟨he, hb⟩ => ?_
 subst he
 exact ⟨_, rfl, law_post rfl (by kernel_rfl) hW' (by rw [Tryz.params3]; intro t ht; simp only [List.mem_cons, List.not_mem_nil, or_false] at ht; (repeat' (first | (rcases ht with rfl | ht) | subst ht)) <;> exact ⟨by kernel_rfl, of_decide_eq_true (by kernel_rfl)⟩) rfl hb⟩
theorem over : Rows.heapRunsRow.holds Tryz.pinned (OpenSpec.ofChange Rows.heapRunsSpec) :=
 OpenClaim.holds_of_wide 3 Tryz.f3 rfl rfl rfl rfl rfl rfl rfl ⟨rfl, rfl, rfl, rfl, rfl⟩ rfl rfl rfl rfl rfl (by kernel_rfl) Tryz.func3 (by kernel_rfl)
  (of_decide_eq_true (by kernel_rfl)) (by unfold Func.isWrapper; first | (rw [if_pos (by decide +kernel)]; kernel_rfl) | (rw [if_neg (by decide +kernel)]; exact ⟨rfl, rfl⟩))
  (fun os started H enc _ => lifted os started H enc)
theorem proved : Rows.HeapRunsSaid := over
end Go.Proofs.YtjkefcidbcifpaaGreat.heapRuns
