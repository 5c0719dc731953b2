/-
  Contracts of package judge: what is told of a taking; of a change.
-/
import Derived.Test.YtkpefnjohdjejaaJgc
namespace Go.Proofs.Ytkpefnjohdjejaa
set_option maxRecDepth 100000
open Go.ChangeShapes Go.WideShapes Go.ChangeAt Go.RowKit

theorem fos_len {n : Int} {l : List Bk} : (fos n l).length = 0 ↔ fos n l = [] := List.length_eq_zero_iff
set_option maxHeartbeats 4000000 in
theorem jsa_is {w : World} {D : List Nat} {j g : Nat} {s : Js} (n e o : Int) {v : Value} {l : List Int} (h : Jo w D j g s) (hv : RA byE w v l) : Calls Try.prog 21 #[.pointer (some ⟨j, 0, none⟩), .int .i64 n, .agg (anc e o v)] w fun f w' =>
    JOut w w' D j g (fun b s' => SeeA s n e o l b s') f := by
  obtain ⟨q, c, hvv, _⟩ := ra_shape hv
  obtain ⟨W, hW, hst, H⟩ := an_boxed w e o (v := v) (by rw [hvv]; rfl)
  have HB := Lib.hid H.out.2
  have HA := Lib.hid H.out.1
  have HV := Lib.hid (fun w' (hb : Below W.heap.size W w') => ra_below hv (below_more H.out.2 hb))
  have HD : Hid (g ∈ D ∧ j ∈ D ∧ j ≠ g ∧ j < w.heap.size ∧ g < w.heap.size ∧ w.heap.size < W.heap.size) := Lib.hid ⟨h.m.gD, h.jD, h.ne, h.top.lt, h.m.dlt g h.m.gD, H.out.1.lt⟩
  have JB := Lib.hid (fun w' (hb : Below W.heap.size W w') => h.below (below_more H.out.2 hb))
  -- the end: what is there then
  have FIN : Hid (∀ w' b s', Jo w' D j g s' → Chg [j, g] W w' → SeeA s n e o l b s' → JOut w w' D j g (fun b s' => SeeA s n e o l b s') (.returned (.bool b))) := Lib.hid fun w' b s' q1 q2 q3 =>
    ⟨b, s', g, D, rfl, q3, q1, (Chg.of_below H.out.2 _).trans q2, Grow.refl _ _ _, .inl rfl⟩
  have FB : Hid (∀ w' b, Below W.heap.size W w' → SeeA s n e o l b s → JOut w w' D j g (fun b s' => SeeA s n e o l b s') (.returned (.bool b))) := Lib.hid fun w' b hb q => FIN.out w' b s (JB.out w' hb) (Chg.of_below hb _) q
  have C0 := Lib.hid (need_is n W)
  have CB := Lib.hid (fun k w' => bare_is k w')
  have CS := Lib.hid (fun k w' (hb : Below W.heap.size W w') => jsame_bare (e := e) (o := o) (k := k) (HV.out _ hb))
  have ld : ∀ w', Below W.heap.size W w' → (anLoad (.pointer (some ⟨w.heap.size, 0, none⟩))).run Try.prog w' = .ok (.agg (anc e o v)) w' := fun w' hb => (H.out.1.below hb).load
  have ldW := ld W (Below.refl _ _)
  have C1 := Lib.hid (jsw_is (e := e) (o := o) (JB.out W (Below.refl _ _)) (HV.out W (Below.refl _ _)))
  subst hvv
  clear hv h H
  by_cases hN : needN n = 0
  · have F1 := Lib.hid (fun w' (hb : Below W.heap.size W w') => FB.out w' _ hb (show SeeA s n e o l (decide (bare3 e o l 1)) s from by unfold SeeA; rw [if_pos hN]; exact ⟨rfl, rfl⟩))
    have C2 := Lib.hid (CS.out 1)
    have C3 := Lib.hid (CB.out 1)
    rw [hN] at C0
    clear hN FIN FB JB HV CS CB C1
    generalize decide (bare3 e o l 1) = bb at *
    generalize l.length = L at *
    go_enter Try.func21, Try.ntmps21
    go_wp2_with fail
    refine (C0.out).mono ?_; rintro e w' ⟨rfl, rfl⟩
    go_wp2
    go_region_held3 (fun w' => Below W.heap.size W w')
      (first | assumption | exact (Below.refl _ _).drew)
      (first
        | (go_at_call 26; refine (C3.out _).mono ?_; rintro e w1 ⟨rfl, b1⟩
           have B1 : Below W.heap.size W w1 := below_more (by assumption) b1
           clear b1)
        | (go_at_call 24; refine (C2.out _ (by assumption)).mono ?_; rintro e w2 ⟨rfl, b2⟩
           have B2 : Below W.heap.size W w2 := below_more (by assumption) b2
           have B2' := Lib.hid B2
           clear b2))
    go_wp2_with fail
    go_ret
    exact F1.out _ B2'.out
  have i0 : (needN n == 0) = false := beq_eq_false_iff_ne.2 hN
  have HN := Lib.hid hN
  clear hN
  obtain ⟨N, hNN⟩ : ∃ N, needN n = N := ⟨_, rfl⟩
  rw [hNN] at i0 C0 HN
  have HNN := Lib.hid hNN
  clear hNN
  go_enter Try.func21, Try.ntmps21
  go_wp2_with fail
  refine (C0.out).mono ?_; rintro e w' ⟨rfl, rfl⟩
  go_wp2_with fail
  refine (C1.out).mono ?_; rintro f w1 (⟨h3, rfl, m1, k1⟩ | ⟨h3, rfl, b1⟩)
  · have G := Lib.hid (FIN.out w1 true _ m1 (k1.mono fun y hy => List.mem_cons.2 (.inl (List.mem_singleton.1 hy))) (by unfold SeeA; rw [HNN.out, if_neg HN.out, if_pos h3]; exact ⟨rfl, rfl⟩))
    clear m1 k1 h3 ld
    go_wp2_with fail
    go_ret
    exact G.out
  have H3 := Lib.hid h3
  have B1 := Lib.hid b1
  have c1 := (JB.out w1 b1).c1
  clear h3 b1 C1 C0
  by_cases hw : s.w = true
  · rw [hw] at c1
    have G := Lib.hid (FB.out w1 false B1.out (by unfold SeeA; rw [HNN.out, if_neg HN.out, if_neg H3.out, if_pos hw]; exact ⟨rfl, rfl⟩))
    clear hw ld
    go_wp2_with fail
    go_ret
    exact G.out
  have hw0 : s.w = false := by simpa using hw
  rw [hw0] at c1
  have HW := Lib.hid hw
  clear hw hw0
  have ld1 : ∀ w', Below w1.heap.size w1 w' → (anLoad (.pointer (some ⟨w.heap.size, 0, none⟩))).run Try.prog w' = .ok (.agg (anc e o (.slice q l.length c))) w' := fun w' hb => ld w' (below_more B1.out hb)
  have C2 := Lib.hid (fun w' (hb : Below w1.heap.size w1 w') => CS.out 4 w' (below_more B1.out hb))
  have C3 := Lib.hid (CB.out 4)
  by_cases h4 : bare3 e o l 4
  · rw [decide_eq_true h4] at C2
    have CF := Lib.hid (fun w' (hb : Below W.heap.size W w') => mofs_is n w' (JB.out w' hb).m)
    have F1 := Lib.hid (fun w' (hb : Below W.heap.size W w') => FB.out w' _ hb (show SeeA s n e o l (decide (fos N s.l = [])) s from by unfold SeeA; rw [HNN.out, if_neg HN.out, if_neg H3.out, if_neg HW.out, if_pos h4]; exact ⟨rfl, rfl⟩))
    have HC0 := Lib.hid (fun w' (hb : Below W.heap.size W w') => (JB.out w' hb).c0)
    rw [HNN.out] at CF
    clear h4 FIN FB HV ld ldW CS CB
    generalize fos N s.l = F at *
    generalize l.length = L at *
    go_wp2
    go_region_held3 (fun w' => Below w1.heap.size w1 w')
      (first | assumption | exact (Below.refl _ _).drew)
      (first
        | (go_at_call 26; refine (C3.out _).mono ?_; rintro e w2 ⟨rfl, b2⟩
           have B2 : Below w1.heap.size w1 w2 := below_more (by assumption) b2
           clear b2)
        | (go_at_call 24; refine (C2.out _ (by assumption)).mono ?_; rintro e w3 ⟨rfl, b3⟩
           have B3 : Below w1.heap.size w1 w3 := below_more (by assumption) b3
           have B3' := Lib.hid (below_more B1.out B3)
           clear b3))
    have c3 := HC0.out _ B3'.out
    clear ld1
    go_wp2_with fail
    refine (CF.out _ B3'.out).mono ?_; rintro e w4 ⟨⟨v4, rfl, o4⟩, b4⟩
    have B4 := Lib.hid (below_more B3'.out b4)
    obtain ⟨ql, cl, rfl⟩ : ∃ q c, v4 = .slice q F.length c := by
      obtain ⟨q, c, e, _⟩ := o4.ri
      exact ⟨q, c, e⟩
    clear o4 b4
    by_cases hF : F = []
    · subst hF
      have G := Lib.hid (F1.out _ B4.out)
      rw [decide_eq_true rfl] at G
      go_wp2_with fail
      go_ret
      exact G.out
    · have G := Lib.hid (F1.out _ B4.out)
      rw [decide_eq_false hF] at G
      have hL := List.length_pos_iff.2 hF
      clear hF F1
      generalize F.length = FL at *
      have i1 : ¬ FL = 0 := by omega
      have i2 : ((FL : Int) == 0) = false := beq_eq_false_iff_ne.2 (by omega)
      clear hL
      go_wp2_with fail
      go_ret
      exact G.out
  rw [decide_eq_false h4] at C2
  have H4 := Lib.hid h4
  clear h4
  have C4 := Lib.hid (fun w' (hb : Below W.heap.size W w') => jsame_is (e := e) (o := o) (e' := 0) (o' := o) (v' := .slice none 0 0) (l' := []) (HV.out _ hb) (own_nil_a byE 0 w').ra)
  have CA := Lib.hid (fun w' (hb : Below W.heap.size W w') => malloc_is n o w' (JB.out w' hb).m)
  have LG : Hid (∀ w2, Below W.heap.size W w2 → ∀ w', Chg [g] w2 w' → (anLoad (.pointer (some ⟨w.heap.size, 0, none⟩))).run Try.prog w' = .ok (.agg (anc e o (.slice q l.length c))) w' ∧ w'.cell? ⟨w.heap.size, 1, none⟩ = some (.int .i64 o) ∧ w'.cell? ⟨j, 0, none⟩ = some (.pointer (some ⟨g, 0, none⟩))) := Lib.hid fun w2 hb w' hc => by
    have hA := (HA.out.below hb).chg hc (by have := HD.out; simp; omega)
    refine ⟨hA.load, hA.c1, ?_⟩
    have := hc.whole (JB.out w2 hb).top (by simpa using HD.out.2.2.1)
    exact Whole.at_ this 0
  rw [HNN.out] at CA
  by_cases h0 : e = 0 ∧ l = []
  · obtain ⟨rfl, rfl⟩ := h0
    have FA : Hid (∀ w2 w', Below W.heap.size W w2 → Mo w' D g (alW s.wl N s.l o) (alB N s.l o) s.r → Chg [g] w2 w' → JOut w w' D j g (fun b s' => SeeA s n 0 o [] b s') (.returned (.bool (alQ N s.l o).isSome))) := Lib.hid fun w2 w' hb m k =>
      FIN.out w' _ { s with wl := alW s.wl N s.l o, l := alB N s.l o } ⟨k.whole (JB.out w2 hb).top (by simpa using HD.out.2.2.1), m, HD.out.2.1, HD.out.2.2.1⟩ ((Chg.of_below hb _).trans (k.mono fun y hy => by rw [List.mem_singleton.1 hy]; simp)) (by
        unfold SeeA
        rw [HNN.out, if_neg HN.out, if_neg H3.out, if_neg HW.out, if_neg H4.out, if_pos ⟨rfl, rfl⟩]
        exact ⟨rfl, rfl⟩)
    have CQ : Hid (∀ w', Below W.heap.size W w' → Calls Try.prog 24 #[.agg (anc 0 o (.slice q ([] : List Int).length c)), .agg (anc 0 o (.slice none 0 0))] w' fun f w'' => f = .returned (.bool true) ∧ Below w'.heap.size w' w'') := Lib.hid fun w' hb => by
      have := C4.out w' hb
      rwa [show decide ((0 : Int) = 0 ∧ o = o ∧ ([] : List Int) = []) = true by simp] at this
    clear FIN FB HV ld ldW CS CB C4
    generalize (alQ N s.l o).isSome = bq at *
    go_wp2
    go_region_held3 (fun w' => Below w1.heap.size w1 w')
      (first | assumption | exact (Below.refl _ _).drew)
      (first
        | (go_at_call 26; refine (C3.out _).mono ?_; rintro e w2 ⟨rfl, b2⟩
           have B2 : Below w1.heap.size w1 w2 := below_more (by assumption) b2
           clear b2)
        | (go_at_call 24; refine (C2.out _ (by assumption)).mono ?_; rintro e w3 ⟨rfl, b3⟩
           have B3 : Below w1.heap.size w1 w3 := below_more (by assumption) b3
           have B3' := Lib.hid (below_more B1.out B3)
           clear b3))
    clear ld1
    have ldg : ∀ w', Chg [g] w3 w' → (anLoad (.pointer (some ⟨w.heap.size, 0, none⟩))).run Try.prog w' = .ok (.agg (anc 0 o (.slice q ([] : List Int).length c))) w' := fun w' hc => (LG.out w3 B3'.out w' hc).1
    have cog : ∀ w', Chg [g] w3 w' → w'.cell? ⟨w.heap.size, 1, none⟩ = some (.int .i64 o) := fun w' hc => (LG.out w3 B3'.out w' hc).2.1
    have cjg : ∀ w', Chg [g] w3 w' → w'.cell? ⟨j, 0, none⟩ = some (.pointer (some ⟨g, 0, none⟩)) := fun w' hc => (LG.out w3 B3'.out w' hc).2.2
    have b3d : Below w3.heap.size w3 w3.drew := (Below.refl _ _).drew
    have k3d : Chg [g] w3 w3.drew := Chg.of_below b3d _
    go_wp2
    refine wp_region_held_drew (S := fun w' => Chg [g] w3 w') (by kernel_rfl) k3d (fun hHeld => ?_)
    refine wpAnyH_take (i := 0) (oi := ⟨some 35, _, _, _, _, _⟩) (v := ?_) rfl (by kernel_rfl) (by kernel_rfl) (by kernel_rfl) (fun _ _ _ h => h) (Or.inl ⟨by rfl, ?_⟩) (by assumption) ?_
    rotate_left
    focus (intro w hSw; (try dsimp only at hSw); go_simp; try with_reducible rfl)
    try simp only [Act.put, List.setIfInBounds_toArray, List.set_cons_zero, List.set_cons_succ]
    refine wpAnyH_take (i := 1) (oi := ⟨some 36, _, _, _, _, _⟩) (v := ?_) rfl (by kernel_rfl) (by kernel_rfl) (by kernel_rfl) (fun _ _ _ h => h) (Or.inl ⟨by rfl, ?_⟩) (by assumption) ?_
    rotate_left
    focus (intro w hSw; (try dsimp only at hSw); go_simp; try with_reducible rfl)
    try simp only [Act.put, List.setIfInBounds_toArray, List.set_cons_zero, List.set_cons_succ]
    refine wpAnyH_take (i := 2) (oi := ⟨some 37, _, _, _, _, _⟩) (v := ?_) rfl (by kernel_rfl) (by kernel_rfl) (by kernel_rfl) (fun _ _ _ h => h) (Or.inl ⟨by rfl, ?_⟩) (by assumption) ?_
    rotate_left
    focus (intro w hSw; (try dsimp only at hSw); go_simp; try with_reducible rfl)
    try simp only [Act.put, List.setIfInBounds_toArray, List.set_cons_zero, List.set_cons_succ]
    refine wpAnyH_take (i := 3) (oi := ⟨some 38, _, _, _, _, _⟩) (v := ?_) rfl (by kernel_rfl) (by kernel_rfl) (by kernel_rfl) (fun _ _ _ h => h) (Or.inl ⟨by rfl, ?_⟩) (by assumption) ?_
    rotate_left
    focus (intro w hSw; (try dsimp only at hSw); go_simp; try with_reducible rfl)
    try simp only [Act.put, List.setIfInBounds_toArray, List.set_cons_zero, List.set_cons_succ]
    refine wpAnyH_ready (rs := [4]) (by kernel_rfl) (by simp) ?_
    refine AllReadyH.cons (o := ⟨some 39, _, _, _, _, _⟩) rfl (fun K hK => ?_) AllReadyH.nil
    go_simp
    go_at_call 24; refine (CQ.out _ (below_more B3'.out b3d)).mono ?_; rintro e w4 ⟨rfl, b4⟩
    have k4 : Chg [g] w3 w4 := k3d.trans (Chg.of_below b4 _)
    have B4 := Lib.hid (below_more (below_more B3'.out b3d) b4)
    refine hK.out _ _ ?_ (fun hHeld => ?_)
    focus (exact k4)
    clear hK K b4
    try simp only [Act.put, List.setIfInBounds_toArray, List.set_cons_zero, List.set_cons_succ]
    refine wpAnyH_take (i := 5) (oi := ⟨some 40, _, _, _, _, _⟩) (v := ?_) rfl (by kernel_rfl) (by kernel_rfl) (by kernel_rfl) (fun _ _ _ h => h) (Or.inl ⟨by rfl, ?_⟩) (by assumption) ?_
    rotate_left
    focus (intro w hSw; (try dsimp only at hSw); go_simp; try with_reducible rfl)
    try simp only [Act.put, List.setIfInBounds_toArray, List.set_cons_zero, List.set_cons_succ]
    refine wpAnyH_take (i := 6) (oi := ⟨some 41, _, _, _, _, _⟩) (v := ?_) rfl (by kernel_rfl) (by kernel_rfl) (by kernel_rfl) (fun _ _ _ h => h) (Or.inl ⟨by rfl, ?_⟩) (by assumption) ?_
    rotate_left
    focus (intro w hSw; (try dsimp only at hSw); go_simp; try with_reducible rfl)
    try simp only [Act.put, List.setIfInBounds_toArray, List.set_cons_zero, List.set_cons_succ]
    refine wpAnyH_take (i := 7) (oi := ⟨some 42, _, _, _, _, _⟩) (v := ?_) rfl (by kernel_rfl) (by kernel_rfl) (by kernel_rfl) (fun _ _ _ h => h) (Or.inl ⟨by rfl, ?_⟩) (by assumption) ?_
    rotate_left
    focus (intro w hSw; (try dsimp only at hSw); go_simp; try with_reducible rfl)
    try simp only [Act.put, List.setIfInBounds_toArray, List.set_cons_zero, List.set_cons_succ]
    refine wpAnyH_take (i := 8) (oi := ⟨some 43, _, _, _, _, _⟩) (v := ?_) rfl (by kernel_rfl) (by kernel_rfl) (by kernel_rfl) (fun _ _ _ h => h) (Or.inl ⟨by rfl, ?_⟩) (by assumption) ?_
    rotate_left
    focus (intro w hSw; (try dsimp only at hSw); go_simp; try with_reducible rfl)
    try simp only [Act.put, List.setIfInBounds_toArray, List.set_cons_zero, List.set_cons_succ]
    refine wpAnyH_take (i := 9) (oi := ⟨some 44, _, _, _, _, _⟩) (v := ?_) rfl (by kernel_rfl) (by kernel_rfl) (by kernel_rfl) (fun _ _ _ h => h) (Or.inl ⟨by rfl, ?_⟩) (by assumption) ?_
    rotate_left
    focus (intro w hSw; (try dsimp only at hSw); go_simp; try with_reducible rfl)
    try simp only [Act.put, List.setIfInBounds_toArray, List.set_cons_zero, List.set_cons_succ]
    refine wpAnyH_take (i := 10) (oi := ⟨some 45, _, _, _, _, _⟩) (v := ?_) rfl (by kernel_rfl) (by kernel_rfl) (by kernel_rfl) (fun _ _ _ h => h) (Or.inl ⟨by rfl, ?_⟩) (by assumption) ?_
    rotate_left
    focus (intro w hSw; (try dsimp only at hSw); go_simp; try with_reducible rfl)
    try simp only [Act.put, List.setIfInBounds_toArray, List.set_cons_zero, List.set_cons_succ]
    refine wpAnyH_take (i := 11) (oi := ⟨some 46, _, _, _, _, _⟩) (v := ?_) rfl (by kernel_rfl) (by kernel_rfl) (by kernel_rfl) (fun _ _ _ h => h) (Or.inl ⟨by rfl, ?_⟩) (by assumption) ?_
    rotate_left
    focus (intro w hSw; (try dsimp only at hSw); go_simp; try with_reducible rfl)
    try simp only [Act.put, List.setIfInBounds_toArray, List.set_cons_zero, List.set_cons_succ]
    refine wpAnyH_take (i := 12) (oi := ⟨some 47, _, _, _, _, _⟩) (v := ?_) rfl (by kernel_rfl) (by kernel_rfl) (by kernel_rfl) (fun _ _ _ h => h) (Or.inl ⟨by rfl, ?_⟩) (by assumption) ?_
    rotate_left
    focus (intro w hSw; (try dsimp only at hSw); go_simp; try with_reducible rfl)
    try simp only [Act.put, List.setIfInBounds_toArray, List.set_cons_zero, List.set_cons_succ]
    refine wpAnyH_ready (rs := [13]) (by kernel_rfl) (by simp) ?_
    refine AllReadyH.cons (o := ⟨some 48, _, _, _, _, _⟩) rfl (fun K hK => ?_) AllReadyH.nil
    go_simp
    go_at_call 43; refine (CA.out _ B4.out).mono ?_; rintro e w5 ⟨rfl, m5, k5⟩
    have G := Lib.hid (FA.out _ _ B4.out m5 k5)
    refine hK.out _ _ ?_ (fun hHeld => ?_)
    focus (exact k4.trans k5)
    clear hK K m5
    try simp only [Act.put, List.setIfInBounds_toArray, List.set_cons_zero, List.set_cons_succ]
    refine wpAnyH_take (i := 14) (oi := ⟨some 49, _, _, _, _, _⟩) (v := ?_) rfl (by kernel_rfl) (by kernel_rfl) (by kernel_rfl) (fun _ _ _ h => h) (Or.inl ⟨by rfl, ?_⟩) (by assumption) ?_
    rotate_left
    focus (intro w hSw; (try dsimp only at hSw); go_simp; try with_reducible rfl)
    try simp only [Act.put, List.setIfInBounds_toArray, List.set_cons_zero, List.set_cons_succ]
    refine wpAnyH_take (i := 15) (oi := ⟨some 6, _, _, _, _, _⟩) (v := ?_) rfl (by kernel_rfl) (by kernel_rfl) (by kernel_rfl) (fun _ _ _ h => h) (Or.inl ⟨by rfl, ?_⟩) (by assumption) ?_
    rotate_left
    focus (intro w hSw; (try dsimp only at hSw); go_simp; try with_reducible rfl)
    try simp only [Act.put, List.setIfInBounds_toArray, List.set_cons_zero, List.set_cons_succ]
    refine wpAnyH_done (by kernel_rfl) ?_ _
    go_wp2
    go_ret
    exact G.out
  · have FN := Lib.hid (fun w' (hb : Below W.heap.size W w') => FB.out w' false hb (by unfold SeeA; rw [HNN.out, if_neg HN.out, if_neg H3.out, if_neg HW.out, if_neg H4.out, if_neg h0]; exact ⟨rfl, rfl⟩))
    have CQ : Hid (∀ w', Below W.heap.size W w' → Calls Try.prog 24 #[.agg (anc e o (.slice q l.length c)), .agg (anc 0 o (.slice none 0 0))] w' fun f w'' => f = .returned (.bool false) ∧ Below w'.heap.size w' w'') := Lib.hid fun w' hb => by
      have := C4.out w' hb
      rwa [show decide (e = 0 ∧ o = o ∧ l = []) = false from decide_eq_false fun q => h0 ⟨q.1, q.2.2⟩] at this
    clear FIN FB HV ld ldW CS CB C4 CA h0
    generalize l.length = L at *
    go_wp2
    go_region_held3 (fun w' => Below w1.heap.size w1 w')
      (first | assumption | exact (Below.refl _ _).drew)
      (first
        | (go_at_call 26; refine (C3.out _).mono ?_; rintro e w2 ⟨rfl, b2⟩
           have B2 : Below w1.heap.size w1 w2 := below_more (by assumption) b2
           clear b2)
        | (go_at_call 24; refine (C2.out _ (by assumption)).mono ?_; rintro e w3 ⟨rfl, b3⟩
           have B3 : Below w1.heap.size w1 w3 := below_more (by assumption) b3
           have B3' := Lib.hid (below_more B1.out B3)
           clear b3))
    clear ld1
    have ldg : ∀ w', Chg [g] w3 w' → (anLoad (.pointer (some ⟨w.heap.size, 0, none⟩))).run Try.prog w' = .ok (.agg (anc e o (.slice q L c))) w' := fun w' hc => (LG.out w3 B3'.out w' hc).1
    have cog : ∀ w', Chg [g] w3 w' → w'.cell? ⟨w.heap.size, 1, none⟩ = some (.int .i64 o) := fun w' hc => (LG.out w3 B3'.out w' hc).2.1
    have b3d : Below w3.heap.size w3 w3.drew := (Below.refl _ _).drew
    have k3d : Chg [g] w3 w3.drew := Chg.of_below b3d _
    go_wp2
    refine wp_region_held_drew (S := fun w' => Chg [g] w3 w') (by kernel_rfl) k3d (fun hHeld => ?_)
    refine wpAnyH_take (i := 0) (oi := ⟨some 35, _, _, _, _, _⟩) (v := ?_) rfl (by kernel_rfl) (by kernel_rfl) (by kernel_rfl) (fun _ _ _ h => h) (Or.inl ⟨by rfl, ?_⟩) (by assumption) ?_
    rotate_left
    focus (intro w hSw; (try dsimp only at hSw); go_simp; try with_reducible rfl)
    try simp only [Act.put, List.setIfInBounds_toArray, List.set_cons_zero, List.set_cons_succ]
    refine wpAnyH_take (i := 1) (oi := ⟨some 36, _, _, _, _, _⟩) (v := ?_) rfl (by kernel_rfl) (by kernel_rfl) (by kernel_rfl) (fun _ _ _ h => h) (Or.inl ⟨by rfl, ?_⟩) (by assumption) ?_
    rotate_left
    focus (intro w hSw; (try dsimp only at hSw); go_simp; try with_reducible rfl)
    try simp only [Act.put, List.setIfInBounds_toArray, List.set_cons_zero, List.set_cons_succ]
    refine wpAnyH_take (i := 2) (oi := ⟨some 37, _, _, _, _, _⟩) (v := ?_) rfl (by kernel_rfl) (by kernel_rfl) (by kernel_rfl) (fun _ _ _ h => h) (Or.inl ⟨by rfl, ?_⟩) (by assumption) ?_
    rotate_left
    focus (intro w hSw; (try dsimp only at hSw); go_simp; try with_reducible rfl)
    try simp only [Act.put, List.setIfInBounds_toArray, List.set_cons_zero, List.set_cons_succ]
    refine wpAnyH_take (i := 3) (oi := ⟨some 38, _, _, _, _, _⟩) (v := ?_) rfl (by kernel_rfl) (by kernel_rfl) (by kernel_rfl) (fun _ _ _ h => h) (Or.inl ⟨by rfl, ?_⟩) (by assumption) ?_
    rotate_left
    focus (intro w hSw; (try dsimp only at hSw); go_simp; try with_reducible rfl)
    try simp only [Act.put, List.setIfInBounds_toArray, List.set_cons_zero, List.set_cons_succ]
    refine wpAnyH_ready (rs := [4]) (by kernel_rfl) (by simp) ?_
    refine AllReadyH.cons (o := ⟨some 39, _, _, _, _, _⟩) rfl (fun K hK => ?_) AllReadyH.nil
    go_simp
    go_at_call 24; refine (CQ.out _ (below_more B3'.out b3d)).mono ?_; rintro e w4 ⟨rfl, b4⟩
    have k4 : Chg [g] w3 w4 := k3d.trans (Chg.of_below b4 _)
    have B4 := Lib.hid (below_more (below_more B3'.out b3d) b4)
    refine hK.out _ _ ?_ (fun hHeld => ?_)
    focus (exact k4)
    clear hK K b4
    try simp only [Act.put, List.setIfInBounds_toArray, List.set_cons_zero, List.set_cons_succ]
    refine wpAnyH_take (i := 5) (oi := ⟨some 40, _, _, _, _, _⟩) (v := ?_) rfl (by kernel_rfl) (by kernel_rfl) (by kernel_rfl) (fun _ _ _ h => h) (Or.inl ⟨by rfl, ?_⟩) (by assumption) ?_
    rotate_left
    focus (intro w hSw; (try dsimp only at hSw); go_simp; try with_reducible rfl)
    try simp only [Act.put, List.setIfInBounds_toArray, List.set_cons_zero, List.set_cons_succ]
    refine wpAnyH_take (i := 6) (oi := ⟨some 41, _, _, _, _, _⟩) (v := undef) rfl (by kernel_rfl) (by kernel_rfl) (by kernel_rfl) (fun _ _ _ h => h) (Or.inr ⟨by rfl, rfl⟩) (by assumption) ?_
    try simp only [Act.put, List.setIfInBounds_toArray, List.set_cons_zero, List.set_cons_succ]
    refine wpAnyH_take (i := 7) (oi := ⟨some 42, _, _, _, _, _⟩) (v := undef) rfl (by kernel_rfl) (by kernel_rfl) (by kernel_rfl) (fun _ _ _ h => h) (Or.inr ⟨by rfl, rfl⟩) (by assumption) ?_
    try simp only [Act.put, List.setIfInBounds_toArray, List.set_cons_zero, List.set_cons_succ]
    refine wpAnyH_take (i := 8) (oi := ⟨some 43, _, _, _, _, _⟩) (v := undef) rfl (by kernel_rfl) (by kernel_rfl) (by kernel_rfl) (fun _ _ _ h => h) (Or.inr ⟨by rfl, rfl⟩) (by assumption) ?_
    try simp only [Act.put, List.setIfInBounds_toArray, List.set_cons_zero, List.set_cons_succ]
    refine wpAnyH_take (i := 9) (oi := ⟨some 44, _, _, _, _, _⟩) (v := undef) rfl (by kernel_rfl) (by kernel_rfl) (by kernel_rfl) (fun _ _ _ h => h) (Or.inr ⟨by rfl, rfl⟩) (by assumption) ?_
    try simp only [Act.put, List.setIfInBounds_toArray, List.set_cons_zero, List.set_cons_succ]
    refine wpAnyH_take (i := 10) (oi := ⟨some 45, _, _, _, _, _⟩) (v := undef) rfl (by kernel_rfl) (by kernel_rfl) (by kernel_rfl) (fun _ _ _ h => h) (Or.inr ⟨by rfl, rfl⟩) (by assumption) ?_
    try simp only [Act.put, List.setIfInBounds_toArray, List.set_cons_zero, List.set_cons_succ]
    refine wpAnyH_take (i := 11) (oi := ⟨some 46, _, _, _, _, _⟩) (v := undef) rfl (by kernel_rfl) (by kernel_rfl) (by kernel_rfl) (fun _ _ _ h => h) (Or.inr ⟨by rfl, rfl⟩) (by assumption) ?_
    try simp only [Act.put, List.setIfInBounds_toArray, List.set_cons_zero, List.set_cons_succ]
    refine wpAnyH_take (i := 12) (oi := ⟨some 47, _, _, _, _, _⟩) (v := undef) rfl (by kernel_rfl) (by kernel_rfl) (by kernel_rfl) (fun _ _ _ h => h) (Or.inr ⟨by rfl, rfl⟩) (by assumption) ?_
    try simp only [Act.put, List.setIfInBounds_toArray, List.set_cons_zero, List.set_cons_succ]
    refine wpAnyH_take (i := 13) (oi := ⟨some 48, _, _, _, _, _⟩) (v := undef) rfl (by kernel_rfl) (by kernel_rfl) (by kernel_rfl) (fun _ _ _ h => h) (Or.inr ⟨by rfl, rfl⟩) (by assumption) ?_
    try simp only [Act.put, List.setIfInBounds_toArray, List.set_cons_zero, List.set_cons_succ]
    refine wpAnyH_take (i := 14) (oi := ⟨some 49, _, _, _, _, _⟩) (v := ?_) rfl (by kernel_rfl) (by kernel_rfl) (by kernel_rfl) (fun _ _ _ h => h) (Or.inl ⟨by rfl, ?_⟩) (by assumption) ?_
    rotate_left
    focus (intro w hSw; (try dsimp only at hSw); go_simp; try with_reducible rfl)
    try simp only [Act.put, List.setIfInBounds_toArray, List.set_cons_zero, List.set_cons_succ]
    refine wpAnyH_take (i := 15) (oi := ⟨some 6, _, _, _, _, _⟩) (v := ?_) rfl (by kernel_rfl) (by kernel_rfl) (by kernel_rfl) (fun _ _ _ h => h) (Or.inl ⟨by rfl, ?_⟩) (by assumption) ?_
    rotate_left
    focus (intro w hSw; (try dsimp only at hSw); go_simp; try with_reducible rfl)
    try simp only [Act.put, List.setIfInBounds_toArray, List.set_cons_zero, List.set_cons_succ]
    refine wpAnyH_done (by kernel_rfl) ?_ _
    have G := Lib.hid (FN.out _ B4.out)
    go_wp2
    go_ret
    exact G.out
end Go.Proofs.Ytkpefnjohdjejaa
