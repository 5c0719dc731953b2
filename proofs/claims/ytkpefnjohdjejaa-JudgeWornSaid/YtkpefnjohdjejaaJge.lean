/-
  Contracts of package judge: what is told of a change.
-/
import Derived.Test.YtkpefnjohdjejaaJgc
namespace Go.Proofs.Ytkpefnjohdjejaa
set_option maxRecDepth 100000
open Go.ChangeShapes Go.WideShapes Go.ChangeAt Go.RowKit

set_option maxHeartbeats 4000000 in
theorem jsc_is {w : World} {D : List Nat} {j g : Nat} {s : Js} (x : Px) (e o : Int) {v : Value} {l : List Int} (hd : x.d = 2 ∨ x.d = 4 ∨ x.d = 5) (h : Jo w D j g s) (hx : RA byE w x.v x.bl) (hxl : x.bl.length ≤ 100000) (hv : RA byE w v l) : Calls Try.prog 22 #[.pointer (some ⟨j, 0, none⟩), .agg (pxc x), .agg (anc e o v)] w fun f w' =>
    JOut w w' D j g (fun b s' => SeeC s x.d x.o x.bl e o l b s') f := by
  obtain ⟨qx, cx, hxv, _⟩ := ra_shape hx
  obtain ⟨q, c, hvv, _⟩ := ra_shape hv
  obtain ⟨W0, hW0, hst0, H0⟩ := px_boxed w x (by rw [hxv]; rfl)
  obtain ⟨W, hW, hst, H⟩ := an_boxed W0 e o (v := v) (by rw [hvv]; rfl)
  have s0 : W0.heap.size = w.heap.size + 1 := by rw [← hW0, size_alloc]
  have hB : Below w.heap.size w W := below_more H0.out.2 H.out.2
  have HS : Hid (w.heap.size + 1 < W.heap.size) := Lib.hid (by have := H.out.1.lt; omega)
  have PX := Lib.hid (H0.out.1.below H.out.2)
  rw [s0] at H hst
  have HA := Lib.hid H.out.1
  have HB := Lib.hid hB
  have HX := Lib.hid (fun w' (hb : Below W.heap.size W w') => ra_below hx (below_more hB hb))
  have HV := Lib.hid (fun w' (hb : Below W.heap.size W w') => ra_below hv (below_more hB hb))
  have JB := Lib.hid (fun w' (hb : Below W.heap.size W w') => h.below (below_more hB hb))
  have HD : Hid (g ∈ D ∧ j ∈ D ∧ j ≠ g ∧ j < w.heap.size ∧ g < w.heap.size) := Lib.hid ⟨h.m.gD, h.jD, h.ne, h.top.lt, h.m.dlt g h.m.gD⟩
  have ldx : ∀ w', Below W.heap.size W w' → (pxLoad (.pointer (some ⟨w.heap.size, 0, none⟩))).run Try.prog w' = .ok (.agg (pxc x)) w' := fun w' hb => run_pxLoad fun j u hj => by rw [Whole.at_ (PX.out.below hb), Nat.zero_add, ← hj]; simp [pxc]
  have lda : ∀ w', Below W.heap.size W w' → (anLoad (.pointer (some ⟨w.heap.size + 1, 0, none⟩))).run Try.prog w' = .ok (.agg (anc e o v)) w' := fun w' hb => (HA.out.below hb).load
  have c0 := (JB.out W (Below.refl _ _)).c0
  have C1 := Lib.hid (mcopy_is W (JB.out W (Below.refl _ _)).m)
  have HL := Lib.hid hxl
  have Hd := Lib.hid hd
  have Hxv := Lib.hid hxv
  subst hvv
  clear hv h hx hxl hd hxv H H0 hB
  go_enter Try.func22, Try.ntmps22
  go_wp2_with fail
  refine (C1.out).mono ?_; rintro f w1 ⟨⟨y, rfl, y1, y2, m1⟩, b1⟩
  have B1 := Lib.hid b1
  have M1 := Lib.hid m1
  have Y := Lib.hid (show W.heap.size ≤ y ∧ y ≠ j ∧ y ≠ g ∧ w.heap.size ≤ y from by have := HD.out; have := HB.out.size; omega)
  have J1 : Hid (Jo w1 (y :: D) j g s) := Lib.hid ⟨(JB.out w1 b1).top, (JB.out W (Below.refl _ _)).m.more b1 y1 y2, List.mem_cons_of_mem _ HD.out.2.1, HD.out.2.2.1⟩
  have C2 := Lib.hid (jchg_is s x Hd.out m1 (HX.out w1 b1) HL.out)
  have lx1 := ldx w1 b1
  clear m1 b1 y1 y2 c0 C1
  go_wp2_with fail
  refine (C2.out).mono ?_; rintro f w2 ⟨er, s2, rfl, hq, hsw, m2, k2⟩
  have HQ := Lib.hid hq
  have HSW := Lib.hid hsw
  have B2 : Hid (Below W.heap.size W w2) := Lib.hid (k2.below B1.out B1.out.size (fun k hk => by rw [List.mem_singleton.1 hk]; exact Y.out.1))
  have M2 := Lib.hid m2
  have J2 : Hid (Jo w2 (y :: D) j g s) := Lib.hid (J1.out.wide k2 (fun k hk => by rw [List.mem_singleton.1 hk]; exact List.mem_cons_self ..) (fun q => Y.out.2.2.1 (List.mem_singleton.1 q).symm) (fun q => Y.out.2.1 (List.mem_singleton.1 q).symm) (fun _ h => h) (fun _ h => .inl h) m2.dlt)
  -- the end
  have FIN : Hid (∀ w' b s' g', Jo w' (y :: D) j g' s' → (Chg [j] w2 w') → (g' = g ∨ g' = y) → SeeC s x.d x.o x.bl e o l b s' → JOut w w' D j g (fun b s' => SeeC s x.d x.o x.bl e o l b s') (.returned (.bool b))) := Lib.hid fun w' b s' g' q1 q2 q3 q4 =>
    ⟨b, s', g', y :: D, rfl, q4, q1, (Chg.of_below (below_more HB.out B2.out) _).trans (q2.mono fun z hz => List.mem_cons.2 (.inl (List.mem_singleton.1 hz))), Grow.one Y.out.2.2.2, by
      rcases q3 with q3 | q3
      · exact .inl q3
      · exact .inr (by rw [q3]; exact Y.out.2.2.2)⟩
  have JB2 := Lib.hid (fun w' (hb : Below w2.heap.size w2 w') => J2.out.below hb)
  have FB : Hid (∀ w', Below w2.heap.size w2 w' → SeeC s x.d x.o x.bl e o l false s → JOut w w' D j g (fun b s' => SeeC s x.d x.o x.bl e o l b s') (.returned (.bool false))) := Lib.hid fun w' hb q => FIN.out w' false s g (JB2.out w' hb) (Chg.of_below hb _) (.inl rfl) q
  have lx2 := ldx w2 B2.out
  have la2 : ∀ w', Below w2.heap.size w2 w' → (anLoad (.pointer (some ⟨w.heap.size + 1, 0, none⟩))).run Try.prog w' = .ok (.agg (anc e o (.slice q l.length c))) w' := fun w' hb => lda w' (below_more B2.out hb)
  have C3 := Lib.hid (bare_is er)
  have C4 := Lib.hid (fun w' (hb : Below w2.heap.size w2 w') => jsame_bare (e := e) (o := o) (k := er) (HV.out _ (below_more B2.out hb)))
  -- behind the wearing: is it just that
  have TAIL : Hid (¬ (er = 0 ∧ must x.d x.bl ∧ bare3 e o l 3) → ¬ (er = 0 ∧ must x.d x.bl ∧ s.w = true) → (bare3 e o l er → ∀ w', Below w2.heap.size w2 w' → JOut w (w'.setCell ⟨j, 0, none⟩ (.pointer (some ⟨y, 0, none⟩))) D j g (fun b s' => SeeC s x.d x.o x.bl e o l b s') (.returned (.bool true)) ∧ w'.frozen? ⟨j, 0, none⟩ = false ∧ w'.cell? ⟨j, 0, none⟩ = some (.pointer (some ⟨g, 0, none⟩))) ∧ (¬ bare3 e o l er → ∀ w', Below w2.heap.size w2 w' → JOut w w' D j g (fun b s' => SeeC s x.d x.o x.bl e o l b s') (.returned (.bool false)))) := Lib.hid fun n1 n2 => by
    refine ⟨fun hb w' hw => ?_, fun hb w' hw => FB.out w' hw ⟨er, s2, HQ.out, by rw [if_neg n1, if_neg n2, if_neg hb]; exact ⟨rfl, rfl⟩⟩⟩
    have jw := JB2.out w' hw
    obtain ⟨g1, g2⟩ := jw.next (M2.out.below hw) (fun q => Y.out.2.1 q.symm) HSW.out
    exact ⟨FIN.out _ true s2 y g1 ((Chg.of_below hw _).trans g2) (.inr rfl) ⟨er, s2, HQ.out, by rw [if_neg n1, if_neg n2, if_pos hb]; exact ⟨rfl, rfl⟩⟩, jw.f 0, jw.c0⟩
  clear hq hsw m2 k2 C2 lx1
  by_cases h0 : er = 0 ∧ must x.d x.bl
  · obtain ⟨rfl, hm⟩ := h0
    have C5 := Lib.hid (jmw_is x w2 Hxv.out)
    rw [decide_eq_true hm] at C5
    have HM := Lib.hid hm
    clear hm
    go_wp2_with fail
    refine (C5.out).mono ?_; rintro f w3 ⟨rfl, b3⟩
    have B3 := Lib.hid b3
    have C6 := Lib.hid (jsw_is (e := e) (o := o) (JB2.out w3 b3) (HV.out w3 (below_more B2.out b3)))
    have la3 := la2 w3 b3
    clear b3 C5 lx2
    go_wp2_with fail
    refine (C6.out).mono ?_; rintro f w4 (⟨h3, rfl, m4, k4⟩ | ⟨h3, rfl, b4⟩)
    · have G := Lib.hid (FIN.out w4 true _ g m4 ((Chg.of_below B3.out _).trans k4) (.inl rfl) ⟨0, s2, HQ.out, by rw [if_pos ⟨rfl, HM.out, h3⟩]; exact ⟨rfl, rfl⟩⟩)
      clear h3 m4 k4 ldx lda la2 la3
      go_wp2_with fail
      go_ret
      exact G.out
    have H3 := Lib.hid h3
    have B4 := Lib.hid (below_more B3.out b4)
    have c1 := (JB2.out w4 B4.out).c1
    clear h3 b4 la3
    by_cases hw : s.w = true
    · rw [hw] at c1
      have G := Lib.hid (FB.out w4 B4.out ⟨0, s2, HQ.out, by rw [if_neg (fun q => H3.out q.2.2), if_pos ⟨rfl, HM.out, hw⟩]; exact ⟨rfl, rfl⟩⟩)
      clear hw ldx lda la2
      go_wp2_with fail
      go_ret
      exact G.out
    have hw0 : s.w = false := by simpa using hw
    rw [hw0] at c1
    have TL := Lib.hid (TAIL.out (fun q => H3.out q.2.2) (fun q => hw q.2.2))
    have bd : Below w2.heap.size w2 w4.drew := below_more B4.out (Below.refl _ _).drew
    have bd0 : Below w2.heap.size w2 w4 := B4.out
    clear hw hw0 TAIL FB FIN JB2 ldx lda JB HV HX
    by_cases hb : bare3 e o l 0
    · rw [decide_eq_true hb] at C4
      have T1 := Lib.hid (TL.out.1 hb)
      clear hb TL
      generalize l.length = L at *
      go_wp2
      go_region_held3 (fun w' => Below w2.heap.size w2 w')
        (first | assumption | exact (Below.refl _ _).drew)
        (first
          | (go_at_call 26; refine (C3.out _).mono ?_; rintro e w5 ⟨rfl, b5⟩
             have B5 : Below w2.heap.size w2 w5 := below_more (by assumption) b5
             clear b5)
          | (go_at_call 24; refine (C4.out _ (by assumption)).mono ?_; rintro e w6 ⟨rfl, b6⟩
             have B6 : Below w2.heap.size w2 w6 := below_more (by assumption) b6
             have B6' := Lib.hid B6
             clear b6))
      obtain ⟨g1, f6, c6⟩ := T1.out _ B6'.out
      have G := Lib.hid g1
      clear g1 la2 T1
      go_wp2_with fail
      go_ret
      exact G.out
    · rw [decide_eq_false hb] at C4
      have T1 := Lib.hid (TL.out.2 hb)
      clear hb TL
      generalize l.length = L at *
      go_wp2
      go_region_held3 (fun w' => Below w2.heap.size w2 w')
        (first | assumption | exact (Below.refl _ _).drew)
        (first
          | (go_at_call 26; refine (C3.out _).mono ?_; rintro e w5 ⟨rfl, b5⟩
             have B5 : Below w2.heap.size w2 w5 := below_more (by assumption) b5
             clear b5)
          | (go_at_call 24; refine (C4.out _ (by assumption)).mono ?_; rintro e w6 ⟨rfl, b6⟩
             have B6 : Below w2.heap.size w2 w6 := below_more (by assumption) b6
             have B6' := Lib.hid B6
             clear b6))
      have G := Lib.hid (T1.out _ B6'.out)
      clear la2 T1
      go_wp2_with fail
      go_ret
      exact G.out
  have TL := Lib.hid (TAIL.out (fun q => h0 ⟨q.1, q.2.1⟩) (fun q => h0 ⟨q.1, q.2.1⟩))
  have H00 := Lib.hid h0
  clear h0 TAIL FB FIN JB2 ldx lda JB HV HX
  -- the wearing is not asked for
  have SKIP : Hid ((er = 0 → Calls Try.prog 46 #[.agg (pxc x)] w2 fun f w' => f = .returned (.bool false) ∧ Below w2.heap.size w2 w')) := Lib.hid fun z => by
    have := jmw_is x w2 Hxv.out
    rwa [decide_eq_false (fun m => H00.out ⟨z, m⟩)] at this
  by_cases hz : er = 0
  · subst hz
    have C5 := Lib.hid (SKIP.out rfl)
    clear SKIP
    by_cases hb : bare3 e o l 0
    · rw [decide_eq_true hb] at C4
      have T1 := Lib.hid (TL.out.1 hb)
      clear hb TL
      generalize l.length = L at *
      go_wp2_with fail
      refine (C5.out).mono ?_; rintro f w3 ⟨rfl, b3⟩
      have bd0 : Below w2.heap.size w2 w3 := b3
      have bd : Below w2.heap.size w2 w3.drew := below_more b3 (Below.refl _ _).drew
      clear b3 C5 lx2
      go_wp2
      go_region_held3 (fun w' => Below w2.heap.size w2 w')
        (first | assumption | exact (Below.refl _ _).drew)
        (first
          | (go_at_call 26; refine (C3.out _).mono ?_; rintro e w5 ⟨rfl, b5⟩
             have B5 : Below w2.heap.size w2 w5 := below_more (by assumption) b5
             clear b5)
          | (go_at_call 24; refine (C4.out _ (by assumption)).mono ?_; rintro e w6 ⟨rfl, b6⟩
             have B6 : Below w2.heap.size w2 w6 := below_more (by assumption) b6
             have B6' := Lib.hid B6
             clear b6))
      obtain ⟨g1, f6, c6⟩ := T1.out _ B6'.out
      have G := Lib.hid g1
      clear g1 la2 T1
      go_wp2_with fail
      go_ret
      exact G.out
    · rw [decide_eq_false hb] at C4
      have T1 := Lib.hid (TL.out.2 hb)
      clear hb TL
      generalize l.length = L at *
      go_wp2_with fail
      refine (C5.out).mono ?_; rintro f w3 ⟨rfl, b3⟩
      have bd0 : Below w2.heap.size w2 w3 := b3
      have bd : Below w2.heap.size w2 w3.drew := below_more b3 (Below.refl _ _).drew
      clear b3 C5 lx2
      go_wp2
      go_region_held3 (fun w' => Below w2.heap.size w2 w')
        (first | assumption | exact (Below.refl _ _).drew)
        (first
          | (go_at_call 26; refine (C3.out _).mono ?_; rintro e w5 ⟨rfl, b5⟩
             have B5 : Below w2.heap.size w2 w5 := below_more (by assumption) b5
             clear b5)
          | (go_at_call 24; refine (C4.out _ (by assumption)).mono ?_; rintro e w6 ⟨rfl, b6⟩
             have B6 : Below w2.heap.size w2 w6 := below_more (by assumption) b6
             have B6' := Lib.hid B6
             clear b6))
      have G := Lib.hid (T1.out _ B6'.out)
      clear la2 T1
      go_wp2_with fail
      go_ret
      exact G.out
  have i0 : (er == 0) = false := beq_eq_false_iff_ne.2 hz
  clear SKIP hz lx2
  by_cases hb : bare3 e o l er
  · rw [decide_eq_true hb] at C4
    have T1 := Lib.hid (TL.out.1 hb)
    clear hb TL
    generalize l.length = L at *
    go_wp2
    go_region_held3 (fun w' => Below w2.heap.size w2 w')
      (first | assumption | exact (Below.refl _ _).drew)
      (first
        | (go_at_call 26; refine (C3.out _).mono ?_; rintro e w5 ⟨rfl, b5⟩
           have B5 : Below w2.heap.size w2 w5 := below_more (by assumption) b5
           clear b5)
        | (go_at_call 24; refine (C4.out _ (by assumption)).mono ?_; rintro e w6 ⟨rfl, b6⟩
           have B6 : Below w2.heap.size w2 w6 := below_more (by assumption) b6
           have B6' := Lib.hid B6
           clear b6))
    obtain ⟨g1, f6, c6⟩ := T1.out _ B6'.out
    have G := Lib.hid g1
    clear g1 la2 T1
    go_wp2_with fail
    go_ret
    exact G.out
  · rw [decide_eq_false hb] at C4
    have T1 := Lib.hid (TL.out.2 hb)
    clear hb TL
    generalize l.length = L at *
    go_wp2
    go_region_held3 (fun w' => Below w2.heap.size w2 w')
      (first | assumption | exact (Below.refl _ _).drew)
      (first
        | (go_at_call 26; refine (C3.out _).mono ?_; rintro e w5 ⟨rfl, b5⟩
           have B5 : Below w2.heap.size w2 w5 := below_more (by assumption) b5
           clear b5)
        | (go_at_call 24; refine (C4.out _ (by assumption)).mono ?_; rintro e w6 ⟨rfl, b6⟩
           have B6 : Below w2.heap.size w2 w6 := below_more (by assumption) b6
           have B6' := Lib.hid B6
           clear b6))
    have G := Lib.hid (T1.out _ B6'.out)
    clear la2 T1
    go_wp2_with fail
    go_ret
    exact G.out
end Go.Proofs.Ytkpefnjohdjejaa
