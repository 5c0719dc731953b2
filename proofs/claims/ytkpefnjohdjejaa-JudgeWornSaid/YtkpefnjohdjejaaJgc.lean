/-
  Contracts of package judge: what is small.
-/
import Derived.Test.YtkpefnjohdjejaaJgo
import Derived.Test.YtkpefnjohdjejaaAns
import Derived.Deep.RegionHeld3
namespace Go.Proofs.Ytkpefnjohdjejaa
set_option maxRecDepth 100000
open Go.ChangeShapes Go.WideShapes Go.ChangeAt Go.RowKit

/-- what is new changes: nothing that was there -/
theorem chg_new {w w1 w' : World} {D E : List Nat} (h : Chg D w w1) (hc : Chg E w1 w') (hE : ∀ k ∈ E, k ∈ D ∨ w.heap.size ≤ k) : Chg D w w' :=
  ⟨hc.os.trans h.os, hc.tape.trans h.tape, hc.output.trans h.output, Nat.le_trans h.size hc.size, fun k hk hD => (hc.block k (Nat.lt_of_lt_of_le hk h.size) fun q => by
    rcases hE k q with q | q
    · exact hD q
    · omega).trans (h.block k hk hD)⟩
theorem bequal_is {w : World} {v v' : Value} {l l' : List Int} (hv : RA byE w v l) (hv' : RA byE w v' l') : Calls Try.prog 50 #[v, v'] w fun f w' => f = .returned (.bool (decide (l = l'))) ∧ w = w' := by
  have hs := run_strConv hv
  have hs' := run_strConv hv'
  have HI' : Hid ((strOfNums l).toList = (strOfNums l').toList → l = l') := Lib.hid (strOf_inj (fun x hx => ra_ok hv x hx) (fun x hx => ra_ok hv' x hx))
  obtain ⟨q, c, hvv, _⟩ := ra_shape hv
  obtain ⟨q', c', hvv', _⟩ := ra_shape hv'
  subst hvv hvv'
  by_cases h2 : l = l'
  · subst h2
    rw [decide_eq_true rfl]
    generalize strOfNums l = sl at *
    generalize l.length = n at *
    clear hv hv' HI'
    go_enter Try.func50, Try.ntmps50
    go_wp2_with fail
    go_ret
    exact ⟨by simp, rfl⟩
  · rw [decide_eq_false h2]
    have hne : ¬ (strOfNums l).toList = (strOfNums l').toList := fun q => h2 (HI'.out q)
    generalize strOfNums l = sl at *
    generalize strOfNums l' = sl' at *
    generalize l.length = n at *
    generalize l'.length = n' at *
    clear hv hv' HI' h2
    go_enter Try.func50, Try.ntmps50
    go_wp2_with fail
    go_ret
    exact ⟨by simp [hne], rfl⟩
set_option maxHeartbeats 1000000 in
theorem jsame_is {w : World} {e o e' o' : Int} {v v' : Value} {l l' : List Int} (hv : RA byE w v l) (hv' : RA byE w v' l') :
    Calls Try.prog 24 #[.agg (anc e o v), .agg (anc e' o' v')] w fun f w' => f = .returned (.bool (decide (e = e' ∧ o = o' ∧ l = l'))) ∧ Below w.heap.size w w' := by
  obtain ⟨W0, hW0⟩ : ∃ W0, w.alloc (.cells (anc e o v) 36) = W0 := ⟨_, rfl⟩
  obtain ⟨W, hW⟩ : ∃ W, W0.alloc (.cells (anc e' o' v') 36) = W := ⟨_, rfl⟩
  have s0 : W0.heap.size = w.heap.size + 1 := by rw [← hW0, size_alloc]
  have B0 : Below w.heap.size w W0 := by rw [← hW0]; exact bal (Below.refl _ _)
  have B1 : Below W0.heap.size W0 W := by rw [← hW]; exact bal (Below.refl _ _)
  have HB := Lib.hid (below_more B0 B1)
  have A0 : Anv W w.heap.size e o v := by
    have : Anv W0 w.heap.size e o v := by rw [← hW0]; exact Anv.new w e o v
    exact this.below B1
  have A1 : Anv W (w.heap.size + 1) e' o' v' := by rw [← s0, ← hW]; exact Anv.new W0 e' o' v'
  have c0 := A0.c0
  have c1 := A0.c1
  have c2 := A0.c2
  have d0 := A1.c0
  have d1 := A1.c1
  have d2 := A1.c2
  have C := Lib.hid (bequal_is (ra_below hv HB.out) (ra_below hv' HB.out))
  obtain ⟨q, c, hvv, _⟩ := ra_shape hv
  obtain ⟨q', c', hvv', _⟩ := ra_shape hv'
  subst hvv hvv'
  by_cases h0 : e = e'
  · subst h0
    by_cases h1 : o = o'
    · subst h1
      have hd : decide (e = e ∧ o = o ∧ l = l') = decide (l = l') := by simp
      rw [hd]
      generalize decide (l = l') = bb at *
      generalize l.length = n at *
      generalize l'.length = n' at *
      clear hv hv' B0 B1 A0 A1
      go_enter Try.func24, Try.ntmps24
      go_wp2_with fail
      refine (C.out).mono ?_; rintro e w' ⟨rfl, rfl⟩
      go_wp2_with fail
      go_ret
      exact ⟨rfl, HB.out⟩
    · have hd : decide (e = e ∧ o = o' ∧ l = l') = false := by simp [h1]
      rw [hd]
      have i1 : (o == o') = false := beq_eq_false_iff_ne.2 h1
      generalize l.length = n at *
      generalize l'.length = n' at *
      clear hv hv' B0 B1 A0 A1 C
      go_enter Try.func24, Try.ntmps24
      go_wp2_with fail
      go_ret
      exact ⟨by simp, HB.out⟩
  · have hd : decide (e = e' ∧ o = o' ∧ l = l') = false := by simp [h0]
    rw [hd]
    have i1 : (e == e') = false := beq_eq_false_iff_ne.2 h0
    generalize l.length = n at *
    generalize l'.length = n' at *
    clear hv hv' B0 B1 A0 A1 C
    go_enter Try.func24, Try.ntmps24
    go_wp2_with fail
    go_ret
    exact ⟨by simp, HB.out⟩
theorem bare_is (e : Int) (w : World) : Calls Try.prog 26 #[.int .i64 e] w fun f w' => f = .returned (.agg (anc e 0 (.slice none 0 0))) ∧ Below w.heap.size w w' := by
  obtain ⟨W, hW, hst, H⟩ := an_boxed w e 0 (v := .slice none 0 0) rfl
  go_enter Try.func26, Try.ntmps26
  go_wp2
  exact bodyPost_ret (v := .agg (anc e 0 (.slice none 0 0))) (results_cell_row rfl _ _ _ _ _ _ _ rfl H.out.1 Try.underlying36 rfl (by rw [info_ans]; rfl)) rfl ⟨rfl, H.out.2⟩
/-- is an answer an error alone -/
theorem jsame_bare {w : World} {e o k : Int} {v : Value} {l : List Int} (hv : RA byE w v l) : Calls Try.prog 24 #[.agg (anc e o v), .agg (anc k 0 (.slice none 0 0))] w fun f w' => f = .returned (.bool (decide (bare3 e o l k))) ∧ Below w.heap.size w w' := by
  have h := jsame_is (w := w) (e := e) (o := o) (e' := k) (o' := 0) (l' := []) hv (own_nil_a byE 0 w).ra
  exact h
theorem jal_nil (w : World) : Calls Try.prog 20 #[.pointer none] w fun e w' => e = .returned (.pointer none) ∧ w = w' := by
  go_enter Try.func20, Try.ntmps20
  go_wp2_with fail
  go_ret
  exact ⟨rfl, rfl⟩
theorem jal_is {w : World} {D : List Nat} {j g : Nat} {s : Js} (h : Jo w D j g s) : Calls Try.prog 20 #[.pointer (some ⟨j, 0, none⟩)] w fun e w' => e = .returned (.pointer (some ⟨g, 0, none⟩)) ∧ w = w' := by
  have c0 := h.c0
  clear h
  go_enter Try.func20, Try.ntmps20
  go_wp2_with fail
  go_ret
  exact ⟨rfl, rfl⟩
theorem jworn_nil (w : World) : Calls Try.prog 12 #[.pointer none] w fun e w' => e = .returned (.bool false) ∧ w = w' := by
  go_enter Try.func12, Try.ntmps12
  go_wp2_with fail
  go_ret
  exact ⟨rfl, rfl⟩
theorem jworn_is {w : World} {D : List Nat} {j g : Nat} {s : Js} (h : Jo w D j g s) : Calls Try.prog 12 #[.pointer (some ⟨j, 0, none⟩)] w fun e w' => e = .returned (.bool s.w) ∧ w = w' := by
  have c1 := h.c1
  clear h
  generalize s.w = b at *
  go_enter Try.func12, Try.ntmps12
  go_wp2_with fail
  go_ret
  exact ⟨rfl, rfl⟩
theorem jroot_nil (w : World) : Calls Try.prog 13 #[.pointer none] w fun e w' => e = .returned (.int .i64 0) ∧ w = w' := by
  have C := Lib.hid (jal_nil w)
  have C2 := Lib.hid (mroot_nil w)
  go_enter Try.func13, Try.ntmps13
  go_wp2_with fail
  refine (C.out).mono ?_; rintro e w' ⟨rfl, rfl⟩
  go_wp2_with fail
  refine (C2.out).mono ?_; rintro e w' ⟨rfl, rfl⟩
  go_wp2_with fail
  go_ret
  exact ⟨rfl, rfl⟩
theorem jroot_is {w : World} {D : List Nat} {j g : Nat} {s : Js} (h : Jo w D j g s) : Calls Try.prog 13 #[.pointer (some ⟨j, 0, none⟩)] w fun e w' => e = .returned (.int .i64 s.r) ∧ w = w' := by
  have C := Lib.hid (jal_is h)
  have C2 := Lib.hid (mroot_is w h.m)
  clear h
  generalize s.r = r at *
  go_enter Try.func13, Try.ntmps13
  go_wp2_with fail
  refine (C.out).mono ?_; rintro e w' ⟨rfl, rfl⟩
  go_wp2_with fail
  refine (C2.out).mono ?_; rintro e w' ⟨rfl, rfl⟩
  go_wp2_with fail
  go_ret
  exact ⟨rfl, rfl⟩
theorem jblk_nil (w : World) : Calls Try.prog 15 #[.pointer none] w fun e w' => e = .returned (.slice none 0 0) ∧ w = w' := by
  have C := Lib.hid (jal_nil w)
  have C2 := Lib.hid (mobl_nil w)
  go_enter Try.func15, Try.ntmps15
  go_wp2_with fail
  refine (C.out).mono ?_; rintro e w' ⟨rfl, rfl⟩
  go_wp2_with fail
  refine (C2.out).mono ?_; rintro e w' ⟨rfl, rfl⟩
  go_wp2_with fail
  go_ret
  exact ⟨rfl, rfl⟩
theorem jblk_is {w : World} {D : List Nat} {j g : Nat} {s : Js} (h : Jo w D j g s) : Calls Try.prog 15 #[.pointer (some ⟨j, 0, none⟩)] w fun e w' => (∃ v, e = .returned v ∧ OwnA blkE w.heap.size w' v s.l) ∧ Below w.heap.size w w' := by
  have C := Lib.hid (jal_is h)
  have C2 := Lib.hid (mobl_is w h.m)
  clear h
  go_enter Try.func15, Try.ntmps15
  go_wp2_with fail
  refine (C.out).mono ?_; rintro e w' ⟨rfl, rfl⟩
  go_wp2_with fail
  refine (C2.out).mono ?_; rintro e w1 ⟨⟨v, rfl, o1⟩, b1⟩
  have G := Lib.hid (And.intro o1 b1)
  obtain ⟨q, c, rfl, _⟩ := ra_shape o1.ra
  clear o1 b1
  go_wp2_with fail
  go_ret
  exact ⟨⟨_, rfl, G.out.1⟩, G.out.2⟩
/-- a judge that says that it is worn -/
theorem jsw_is {w : World} {D : List Nat} {j g : Nat} {s : Js} {e o : Int} {v : Value} {l : List Int} (h : Jo w D j g s) (hv : RA byE w v l) : Calls Try.prog 41 #[.pointer (some ⟨j, 0, none⟩), .agg (anc e o v)] w fun f w' =>
    (bare3 e o l 3 ∧ f = .returned (.bool true) ∧ Jo w' D j g { s with w := true } ∧ Chg [j] w w') ∨ (¬ bare3 e o l 3 ∧ f = .returned (.bool false) ∧ Below w.heap.size w w') := by
  obtain ⟨q, c, hvv, _⟩ := ra_shape hv
  obtain ⟨W, hW, hst, H⟩ := an_boxed w e o (v := v) (by rw [hvv]; rfl)
  have ld : ∀ w', Below W.heap.size W w' → (anLoad (.pointer (some ⟨w.heap.size, 0, none⟩))).run Try.prog w' = .ok (.agg (anc e o v)) w' := fun w' hb => (H.out.1.below hb).load
  have bd : Below W.heap.size W W.drew := (Below.refl _ _).drew
  have C1 := Lib.hid (fun w' => bare_is 3 w')
  have C2 := Lib.hid (fun w' (hb : Below W.heap.size W w') => jsame_bare (e := e) (o := o) (k := 3) (ra_below hv (below_more H.out.2 hb)))
  have HJ := Lib.hid (fun w' (hb : Below W.heap.size W w') => And.intro (h.below (below_more H.out.2 hb)) (below_more H.out.2 hb))
  subst hvv
  clear hv h
  by_cases hb : bare3 e o l 3
  · rw [decide_eq_true hb] at C2
    have HBB := Lib.hid hb
    clear hb
    generalize l.length = n at *
    go_enter Try.func41, Try.ntmps41
    go_wp2
    go_region_held3 (fun w' => Below W.heap.size W w')
      (first | assumption | exact (Below.refl _ _).drew)
      (first
        | (go_at_call 26; refine (C1.out _).mono ?_; rintro e w1 ⟨rfl, b1⟩
           have B1 : Below W.heap.size W w1 := below_more (by assumption) b1
           clear b1)
        | (go_at_call 24; refine (C2.out _ (by assumption)).mono ?_; rintro e w2 ⟨rfl, b2⟩
           have B2 : Below W.heap.size W w2 := below_more (by assumption) b2
           have B2' := Lib.hid B2
           clear b2))
    obtain ⟨J2, K2⟩ := HJ.out _ B2'.out
    have f1 := J2.f 1
    have c1 := J2.c1
    obtain ⟨g1, g2⟩ := J2.wear true
    have G := Lib.hid (And.intro g1 ((Chg.of_below K2 [j]).trans g2))
    clear J2 K2 g1 g2 ld
    go_wp2_with fail
    go_ret
    exact .inl ⟨HBB.out, rfl, G.out⟩
  · rw [decide_eq_false hb] at C2
    have HBB := Lib.hid hb
    clear hb
    generalize l.length = n at *
    go_enter Try.func41, Try.ntmps41
    go_wp2
    go_region_held3 (fun w' => Below W.heap.size W w')
      (first | assumption | exact (Below.refl _ _).drew)
      (first
        | (go_at_call 26; refine (C1.out _).mono ?_; rintro e w1 ⟨rfl, b1⟩
           have B1 : Below W.heap.size W w1 := below_more (by assumption) b1
           clear b1)
        | (go_at_call 24; refine (C2.out _ (by assumption)).mono ?_; rintro e w2 ⟨rfl, b2⟩
           have B2 : Below W.heap.size W w2 := below_more (by assumption) b2
           have B2' := Lib.hid B2
           clear b2))
    have G := Lib.hid (HJ.out _ B2'.out).2
    clear ld
    go_wp2_with fail
    go_ret
    exact .inr ⟨HBB.out, rfl, G.out⟩
theorem jmw_is (x : Px) (w : World) {q : Option Addr} {c : Nat} (hv : x.v = .slice q x.bl.length c) : Calls Try.prog 46 #[.agg (pxc x)] w fun e w' => e = .returned (.bool (decide (must x.d x.bl))) ∧ Below w.heap.size w w' := by
  obtain ⟨W, hW, hst, H⟩ := px_boxed w x (by rw [hv]; rfl)
  have c0 := H.out.1.c0
  have c4 := H.out.1.c4
  rw [hv] at c4
  have HB := Lib.hid H.out.2
  by_cases h4 : x.d = 4
  · rw [h4] at c0
    by_cases hb : x.bl = []
    · have e0 : decide (must x.d x.bl) = false := decide_eq_false fun k => k ⟨h4, hb⟩
      rw [e0]
      have hl : x.bl.length = 0 := by rw [hb]; rfl
      rw [hl] at c4
      clear hv h4 hb e0 hl H
      generalize pxc x = xc at *
      go_enter Try.func46, Try.ntmps46
      go_wp2_with fail
      go_ret
      exact ⟨rfl, HB.out⟩
    · have e0 : decide (must x.d x.bl) = true := decide_eq_true fun k => hb k.2
      rw [e0]
      have hl : 0 < x.bl.length := List.length_pos_iff.2 hb
      have hl2 : (x.bl.length : Int) > 0 := by omega
      clear hv h4 hb e0 H
      generalize x.bl.length = n at *
      generalize pxc x = xc at *
      go_enter Try.func46, Try.ntmps46
      go_wp2_with fail
      go_ret
      exact ⟨by simp, HB.out⟩
  · have e0 : decide (must x.d x.bl) = true := decide_eq_true fun k => h4 k.1
    rw [e0]
    have i1 : (x.d == 4) = false := beq_eq_false_iff_ne.2 h4
    have i2 : (x.d != 4) = true := by simpa using h4
    clear hv h4 e0 H
    generalize x.d = d at *
    generalize pxc x = xc at *
    go_enter Try.func46, Try.ntmps46
    go_wp2_with fail
    go_ret
    exact ⟨by simp, HB.out⟩
/-- a change, done to a model -/
theorem jchg_is {w : World} {D : List Nat} {g : Nat} (s : Js) (x : Px) (hd : x.d = 2 ∨ x.d = 4 ∨ x.d = 5) (h : Mo w D g s.wl s.l s.r) (hv : RA byE w x.v x.bl) (hbl : x.bl.length ≤ 100000) : Calls Try.prog 45 #[.pointer (some ⟨g, 0, none⟩), .agg (pxc x)] w fun e w' =>
    ∃ er s2, e = .returned (.int .i64 er) ∧ ChQ s x.d x.o x.bl er s2 ∧ s2.w = s.w ∧ Mo w' D g s2.wl s2.l s2.r ∧ Chg [g] w w' := by
  obtain ⟨q, c, hvv, _⟩ := ra_shape hv
  obtain ⟨W, hW, hst, H⟩ := px_boxed w x (by rw [hvv]; rfl)
  have c0 := H.out.1.c0
  have c1 := H.out.1.c1
  have c4 := H.out.1.c4
  rw [hvv] at c4
  have HM := Lib.hid (h.below H.out.2)
  have HC := Lib.hid (Chg.of_below H.out.2 [g])
  have HV : Hid (RA byE W (.slice q x.bl.length c) x.bl) := Lib.hid (by rw [← hvv]; exact ra_below hv H.out.2)
  have HL := Lib.hid hbl
  clear h hv hbl hvv H
  rcases hd with hd | hd | hd
  · rw [hd] at c0
    have C := Lib.hid (mfree_is x.o W HM.out)
    have F := Lib.hid (fun w' (m : Mo w' D g (feW s.wl s.l x.o s.r) (feB s.l x.o s.r) s.r) (k : Chg [g] W w') => (show ∃ er s2, Ending.returned (.int .i64 (feQ s.l x.o s.r)) = .returned (.int .i64 er) ∧ ChQ s x.d x.o x.bl er s2 ∧ s2.w = s.w ∧ Mo w' D g s2.wl s2.l s2.r ∧ Chg [g] w w' from ⟨_, ⟨feW s.wl s.l x.o s.r, feB s.l x.o s.r, s.r, s.w⟩, rfl, by unfold ChQ; rw [if_pos hd]; exact ⟨rfl, rfl⟩, rfl, m, HC.out.trans k⟩))
    clear hd
    generalize x.o = o at *
    generalize pxc x = xc at *
    go_enter Try.func45, Try.ntmps45
    go_wp2_with fail
    refine (C.out).mono ?_; rintro e w1 ⟨rfl, m1, k1⟩
    have G := Lib.hid (F.out _ m1 k1)
    clear m1 k1 F C
    generalize feQ s.l o s.r = er at *
    go_wp2_with fail
    go_ret
    exact G.out
  · rw [hd] at c0
    have C := Lib.hid (mwrite_is x.o x.bl _ W HM.out HV.out HL.out)
    have F := Lib.hid (fun w' M (hM : WrT s.wl x.bl x.o M) (m : Mo w' D g (appF s.wl M) s.l s.r) (k : Chg [g] W w') => (show ∃ er s2, Ending.returned (.int .i64 (refF s.wl x.o x.bl.length)) = .returned (.int .i64 er) ∧ ChQ s x.d x.o x.bl er s2 ∧ s2.w = s.w ∧ Mo w' D g s2.wl s2.l s2.r ∧ Chg [g] w w' from ⟨_, ⟨appF s.wl M, s.l, s.r, s.w⟩, rfl, by unfold ChQ; rw [if_neg (by omega), if_pos hd]; exact ⟨rfl, M, hM, rfl⟩, rfl, m, HC.out.trans k⟩))
    have hne : ¬ x.d = 2 := by omega
    clear hd hne
    generalize x.o = o at *
    generalize pxc x = xc at *
    generalize x.bl = bl at *
    go_enter Try.func45, Try.ntmps45
    go_wp2_with fail
    refine (C.out).mono ?_; rintro e w1 ⟨rfl, M, hM, m1, k1⟩
    have G := Lib.hid (F.out _ M hM m1 k1)
    clear hM m1 k1 F C
    generalize refF s.wl o bl.length = er at *
    go_wp2_with fail
    go_ret
    exact G.out
  · rw [hd] at c0
    have C := Lib.hid (msetr_is x.o W HM.out)
    have F := Lib.hid (fun w' (m : Mo w' D g s.wl s.l (if srQ s.l x.o = 0 then x.o else s.r)) (k : Chg [g] W w') => (show ∃ er s2, Ending.returned (.int .i64 (srQ s.l x.o)) = .returned (.int .i64 er) ∧ ChQ s x.d x.o x.bl er s2 ∧ s2.w = s.w ∧ Mo w' D g s2.wl s2.l s2.r ∧ Chg [g] w w' from ⟨_, ⟨s.wl, s.l, if srQ s.l x.o = 0 then x.o else s.r, s.w⟩, rfl, by unfold ChQ; rw [if_neg (by omega), if_neg (by omega)]; exact ⟨rfl, rfl⟩, rfl, m, HC.out.trans k⟩))
    clear hd
    generalize x.o = o at *
    generalize pxc x = xc at *
    go_enter Try.func45, Try.ntmps45
    go_wp2_with fail
    refine (C.out).mono ?_; rintro e w1 ⟨rfl, m1, k1⟩
    have G := Lib.hid (F.out _ m1 k1)
    clear m1 k1 F C
    generalize srQ s.l o = er at *
    go_wp2_with fail
    go_ret
    exact G.out
end Go.Proofs.Ytkpefnjohdjejaa
