/-
  Contracts of package judge: what is told of an operation; a new judge.
-/
import Derived.Test.YtkpefnjohdjejaaJgs
import Derived.Test.YtkpefnjohdjejaaJge
namespace Go.Proofs.Ytkpefnjohdjejaa
set_option maxRecDepth 100000
open Go.ChangeShapes Go.WideShapes Go.ChangeAt Go.RowKit

theorem JOut.from_ {w W w' : World} {D : List Nat} {j g : Nat} {P Q : Bool → Js → Prop} {e : Ending} (hb : Below w.heap.size w W) (hPQ : ∀ b s, P b s → Q b s) (h : JOut W w' D j g P e) : JOut w w' D j g Q e := by
  obtain ⟨b, s', g', D', h1, h2, h3, h4, h5, h6⟩ := h
  have hs := hb.size
  refine ⟨b, s', g', D', h1, hPQ _ _ h2, h3, (Chg.of_below hb _).trans h4, ⟨h5.sub, fun k hk => ?_⟩, ?_⟩
  · rcases h5.new k hk with q | q
    · exact .inl q
    · exact .inr (Nat.le_trans hs q)
  · rcases h6 with q | q
    · exact .inl q
    · exact .inr (Nat.le_trans hs q)
set_option maxHeartbeats 4000000 in
theorem jsee_is {w : World} {D : List Nat} {j g : Nat} {s : Js} (x : Px) (e o : Int) {v : Value} {l : List Int} (h : Jo w D j g s) (hx : RA byE w x.v x.bl) (hxl : x.bl.length ≤ 100000) (hv : RA byE w v l) : Calls Try.prog 10 #[.pointer (some ⟨j, 0, none⟩), .agg (pxc x), .agg (anc e o v)] w fun f w' =>
    JOut w w' D j g (fun b s' => SeeQ s x.d x.o x.nn x.bl e o l b s') f := by
  obtain ⟨qx, cx, hxv, _⟩ := ra_shape hx
  obtain ⟨q, c, hvv, _⟩ := ra_shape hv
  obtain ⟨W0, hW0, hst0, H0⟩ := px_boxed w x (by rw [hxv]; rfl)
  obtain ⟨W, hW, hst, H⟩ := an_boxed W0 e o (v := v) (by rw [hvv]; rfl)
  have s0 : W0.heap.size = w.heap.size + 1 := by rw [← hW0, size_alloc]
  have hB : Below w.heap.size w W := below_more H0.out.2 H.out.2
  have PX := H0.out.1.below H.out.2
  rw [s0] at H hst
  have HB := Lib.hid hB
  have c0 := PX.c0
  have c1 := PX.c1
  have c2 := PX.c2
  have HX := Lib.hid (ra_below hx hB)
  have HV := Lib.hid (fun w' (hb : Below W.heap.size W w') => ra_below hv (below_more hB hb))
  have JB := Lib.hid (fun w' (hb : Below W.heap.size W w') => h.below (below_more hB hb))
  have ldx : (pxLoad (.pointer (some ⟨w.heap.size, 0, none⟩))).run Try.prog W = .ok (.agg (pxc x)) W := run_pxLoad fun j u hj => by rw [Whole.at_ PX, Nat.zero_add, ← hj]; simp [pxc]
  have lda : ∀ w', Below W.heap.size W w' → (anLoad (.pointer (some ⟨w.heap.size + 1, 0, none⟩))).run Try.prog w' = .ok (.agg (anc e o v)) w' := fun w' hb => (H.out.1.below hb).load
  have ldW := lda W (Below.refl _ _)
  have C1 := Lib.hid (jal_is (JB.out W (Below.refl _ _)))
  have HL := Lib.hid hxl
  have FB : Hid (∀ w' b, Below W.heap.size W w' → SeeQ s x.d x.o x.nn x.bl e o l b s → JOut w w' D j g (fun b s' => SeeQ s x.d x.o x.nn x.bl e o l b s') (.returned (.bool b))) := Lib.hid fun w' b hb q => ⟨b, s, g, D, rfl, q, JB.out w' hb, Chg.of_below (below_more hB hb) _, Grow.refl _ _ _, .inl rfl⟩
  have bd : Below W.heap.size W W.drew := (Below.refl _ _).drew
  subst hvv
  clear hv h hx hxl hxv H H0 hB PX
  by_cases hd1 : x.d = 1
  · have C2 := Lib.hid (jsa_is x.nn e o (JB.out W (Below.refl _ _)) (HV.out W (Below.refl _ _)))
    have FR := Lib.hid (fun w' f (q : JOut W w' D j g (fun b s' => SeeA s x.nn e o l b s') f) => q.from_ (Q := fun b s' => SeeQ s x.d x.o x.nn x.bl e o l b s') HB.out (fun b s' q => by unfold SeeQ; rw [if_pos hd1]; exact q))
    rw [hd1] at c0
    clear hd1 FB HX HV JB lda ldx
    generalize l.length = L at *
    generalize pxc x = xc at *
    generalize x.nn = xn at *
    go_enter Try.func10, Try.ntmps10
    go_wp2_with fail
    refine (C1.out).mono ?_; rintro e w' ⟨rfl, rfl⟩
    go_wp2_with fail
    refine (C2.out).mono ?_; rintro f w1 hq
    have G := FR.out _ _ hq
    clear FR
    obtain ⟨b, s', g', D', rfl, hq⟩ := hq
    have GG := Lib.hid G
    clear hq G
    go_wp2_with fail
    go_ret
    exact GG.out
  by_cases hdc : x.d = 2 ∨ x.d = 4 ∨ x.d = 5
  · have C2 := Lib.hid (jsc_is x e o hdc (JB.out W (Below.refl _ _)) HX.out HL.out (HV.out W (Below.refl _ _)))
    have FR := Lib.hid (fun w' f (q : JOut W w' D j g (fun b s' => SeeC s x.d x.o x.bl e o l b s') f) => q.from_ (Q := fun b s' => SeeQ s x.d x.o x.nn x.bl e o l b s') HB.out (fun b s' q => by unfold SeeQ; rw [if_neg hd1, if_pos hdc]; exact q))
    have i1 : (x.d == 1) = false := beq_eq_false_iff_ne.2 hd1
    clear hd1 FB HX HV JB lda
    generalize l.length = L at *
    rcases hdc with hd | hd | hd
    · rw [hd] at c0
      clear hd i1
      generalize pxc x = xc at *
      go_enter Try.func10, Try.ntmps10
      go_wp2_with fail
      refine (C1.out).mono ?_; rintro e w' ⟨rfl, rfl⟩
      go_wp2_with fail
      refine (C2.out).mono ?_; rintro f w1 hq
      have G := FR.out _ _ hq
      clear FR
      obtain ⟨b, s', g', D', rfl, hq⟩ := hq
      have GG := Lib.hid G
      clear hq G
      go_wp2_with fail
      go_ret
      exact GG.out
    · rw [hd] at c0
      clear hd i1
      generalize pxc x = xc at *
      go_enter Try.func10, Try.ntmps10
      go_wp2_with fail
      refine (C1.out).mono ?_; rintro e w' ⟨rfl, rfl⟩
      go_wp2_with fail
      refine (C2.out).mono ?_; rintro f w1 hq
      have G := FR.out _ _ hq
      clear FR
      obtain ⟨b, s', g', D', rfl, hq⟩ := hq
      have GG := Lib.hid G
      clear hq G
      go_wp2_with fail
      go_ret
      exact GG.out
    · rw [hd] at c0
      clear hd i1
      generalize pxc x = xc at *
      go_enter Try.func10, Try.ntmps10
      go_wp2_with fail
      refine (C1.out).mono ?_; rintro e w' ⟨rfl, rfl⟩
      go_wp2_with fail
      refine (C2.out).mono ?_; rintro f w1 hq
      have G := FR.out _ _ hq
      clear FR
      obtain ⟨b, s', g', D', rfl, hq⟩ := hq
      have GG := Lib.hid G
      clear hq G
      go_wp2_with fail
      go_ret
      exact GG.out
  by_cases hd3 : x.d = 3
  · have C2 := Lib.hid (fun w' (hb : Below W.heap.size W w') => mread_is x.o x.nn w' (JB.out w' hb).m)
    have C3 := Lib.hid (fun w' u (hb : Below W.heap.size W w') (hu : RA byE w' u (rdR s.wl x.o x.nn)) => jsame_is (e := e) (o := o) (e' := refF s.wl x.o x.nn) (o' := 0) (HV.out w' hb) hu)
    have FR := Lib.hid (fun w' (hb : Below W.heap.size W w') => FB.out w' (decide (e = refF s.wl x.o x.nn ∧ o = 0 ∧ l = rdR s.wl x.o x.nn)) hb (by unfold SeeQ; rw [if_neg hd1, if_neg hdc, if_pos hd3]; exact ⟨rfl, rfl⟩))
    have cj : ∀ w', Below W.heap.size W w' → w'.cell? ⟨j, 0, none⟩ = some (.pointer (some ⟨g, 0, none⟩)) := fun w' hb => (JB.out w' hb).c0
    have co : ∀ w', Below W.heap.size W w' → w'.cell? ⟨w.heap.size, 1, none⟩ = some (.int .i64 x.o) := fun w' hb => (hb.cell (p := ⟨w.heap.size, 1, none⟩) (World.block_lt_of_cell? _ _ c1)).trans c1
    have cn : ∀ w', Below W.heap.size W w' → w'.cell? ⟨w.heap.size, 2, none⟩ = some (.int .i64 x.nn) := fun w' hb => (hb.cell (p := ⟨w.heap.size, 2, none⟩) (World.block_lt_of_cell? _ _ c2)).trans c2
    have lda2 := Lib.hid lda
    rw [hd3] at c0
    clear hd3 hd1 hdc FB HX HV JB lda ldx ldW c1 c2
    generalize decide (e = refF s.wl x.o x.nn ∧ o = 0 ∧ l = rdR s.wl x.o x.nn) = bb at *
    generalize refF s.wl x.o x.nn = er at *
    generalize rdR s.wl x.o x.nn = rl at *
    generalize l.length = L at *
    generalize pxc x = xc at *
    generalize x.nn = xn at *
    generalize x.o = xo at *
    go_enter Try.func10, Try.ntmps10
    go_wp2_with fail
    refine (C1.out).mono ?_; rintro e w' ⟨rfl, rfl⟩
    go_wp2
    go_region_held3 (fun w' => Below W.heap.size W w')
      (first | assumption | exact (Below.refl _ _).drew)
      (first
        | (go_at_call 23; refine (C2.out _ (by assumption)).mono ?_; rintro f w1 ⟨⟨u, rfl, o1⟩, b1⟩
           have B1 : Below W.heap.size W w1 := below_more (by assumption) b1
           have B1' := Lib.hid B1
           have O1 := Lib.hid o1
           obtain ⟨qu, cu, rfl, _⟩ := ra_shape o1.ra
           clear b1 o1))
    have C4 := Lib.hid (C3.out _ _ B1'.out O1.out.ra)
    have la1 := lda2.out _ B1'.out
    clear cj co cn C3 C2
    go_wp2_with fail
    refine (C4.out).mono ?_; rintro f w2 ⟨rfl, b2⟩
    have G := Lib.hid (FR.out _ (below_more B1'.out b2))
    clear b2
    go_wp2_with fail
    go_ret
    exact G.out
  by_cases hd6 : x.d = 6
  · have C2 := Lib.hid (fun w' (hb : Below W.heap.size W w') => mroot_is w' (JB.out w' hb).m)
    have C3 := Lib.hid (fun w' (hb : Below W.heap.size W w') => jsame_is (e := e) (o := o) (e' := 0) (o' := s.r) (v' := .slice none 0 0) (l' := []) (HV.out w' hb) (own_nil_a byE 0 w').ra)
    have FR := Lib.hid (fun w' (hb : Below W.heap.size W w') => FB.out w' (decide (e = 0 ∧ o = s.r ∧ l = [])) hb (by unfold SeeQ; rw [if_neg hd1, if_neg hdc, if_neg hd3, if_pos hd6]; exact ⟨rfl, rfl⟩))
    have cj : ∀ w', Below W.heap.size W w' → w'.cell? ⟨j, 0, none⟩ = some (.pointer (some ⟨g, 0, none⟩)) := fun w' hb => (JB.out w' hb).c0
    rw [hd6] at c0
    clear hd6 hd3 hd1 hdc FB HX HV JB ldx ldW c1 c2
    generalize decide (e = 0 ∧ o = s.r ∧ l = []) = bb at *
    generalize l.length = L at *
    generalize pxc x = xc at *
    generalize s.r = r at *
    go_enter Try.func10, Try.ntmps10
    go_wp2_with fail
    refine (C1.out).mono ?_; rintro e w' ⟨rfl, rfl⟩
    go_wp2
    go_region_held3 (fun w' => Below W.heap.size W w')
      (first | assumption | exact (Below.refl _ _).drew)
      (first
        | (go_at_call 25; refine (C2.out _ (by assumption)).mono ?_; rintro f w1 ⟨rfl, rfl⟩)
        | (go_at_call 24; refine (C3.out _ (by assumption)).mono ?_; rintro f w2 ⟨rfl, b2⟩
           have B2 : Below W.heap.size W w2 := below_more (by assumption) b2
           have B2' := Lib.hid B2
           clear b2))
    have G := Lib.hid (FR.out _ B2'.out)
    clear lda cj
    go_wp2_with fail
    go_ret
    exact G.out
  have C2 := Lib.hid (bare_is 1)
  have C3 := Lib.hid (fun w' (hb : Below W.heap.size W w') => jsame_bare (e := e) (o := o) (k := 1) (HV.out w' hb))
  have FR := Lib.hid (fun w' (hb : Below W.heap.size W w') => FB.out w' (decide (bare3 e o l 1)) hb (by unfold SeeQ; rw [if_neg hd1, if_neg hdc, if_neg hd3, if_neg hd6]; exact ⟨rfl, rfl⟩))
  have i1 : (x.d == 1) = false := beq_eq_false_iff_ne.2 hd1
  have i2 : (x.d == 2) = false := beq_eq_false_iff_ne.2 (by omega)
  have i3 : (x.d == 3) = false := beq_eq_false_iff_ne.2 hd3
  have i4 : (x.d == 4) = false := beq_eq_false_iff_ne.2 (by omega)
  have i5 : (x.d == 5) = false := beq_eq_false_iff_ne.2 (by omega)
  have i6 : (x.d == 6) = false := beq_eq_false_iff_ne.2 hd6
  clear hd6 hd3 hd1 hdc FB HX HV JB ldx ldW c1 c2
  generalize decide (bare3 e o l 1) = bb at *
  generalize l.length = L at *
  generalize pxc x = xc at *
  generalize x.d = xd at *
  go_enter Try.func10, Try.ntmps10
  go_wp2_with fail
  refine (C1.out).mono ?_; rintro e w' ⟨rfl, rfl⟩
  go_wp2
  go_region_held3 (fun w' => Below W.heap.size W w')
    (first | assumption | exact (Below.refl _ _).drew)
    (first
      | (go_at_call 26; refine (C2.out _).mono ?_; rintro f w1 ⟨rfl, b1⟩
         have B1 : Below W.heap.size W w1 := below_more (by assumption) b1
         clear b1)
      | (go_at_call 24; refine (C3.out _ (by assumption)).mono ?_; rintro f w2 ⟨rfl, b2⟩
         have B2 : Below W.heap.size W w2 := below_more (by assumption) b2
         have B2' := Lib.hid B2
         clear b2))
  have G := Lib.hid (FR.out _ B2'.out)
  clear lda
  go_wp2_with fail
  go_ret
  exact G.out
theorem jsee_nil (x : Px) (e o : Int) {v : Value} {l : List Int} (w : World) (hx1 : x.v.oneCell' = true) (hv : RA byE w v l) : Calls Try.prog 10 #[.pointer none, .agg (pxc x), .agg (anc e o v)] w fun f w' => f = .returned (.bool false) ∧ Below w.heap.size w w' := by
  obtain ⟨q, c, hvv, _⟩ := ra_shape hv
  obtain ⟨W0, hW0, hst0, H0⟩ := px_boxed w x hx1
  obtain ⟨W, hW, hst, H⟩ := an_boxed W0 e o (v := v) (by rw [hvv]; rfl)
  have s0 : W0.heap.size = w.heap.size + 1 := by rw [← hW0, size_alloc]
  have HB := Lib.hid (below_more H0.out.2 H.out.2)
  rw [s0] at H hst
  have C1 := Lib.hid (jal_nil W)
  subst hvv
  clear hv H H0 hx1
  generalize l.length = L at *
  generalize pxc x = xc at *
  go_enter Try.func10, Try.ntmps10
  go_wp2_with fail
  refine (C1.out).mono ?_; rintro e w' ⟨rfl, rfl⟩
  go_wp2_with fail
  go_ret
  exact ⟨rfl, HB.out⟩
/-- a new one -/
theorem jnew_no (n : Int) (h : ¬ Mw n) (w : World) : Calls Try.prog 8 #[.int .i64 n] w fun e w' => e = .returned (.pointer none) ∧ Below w.heap.size w w' := by
  have C := Lib.hid (mnew_no n h w)
  go_enter Try.func8, Try.ntmps8
  go_wp2_with fail
  refine (C.out).mono ?_; rintro f w1 ⟨rfl, b1⟩
  have B1 := Lib.hid b1
  clear b1
  go_wp2_with fail
  go_ret
  exact ⟨rfl, B1.out⟩
theorem built_jo (p : Option Addr) : Try.prog.built 55 [(0, .pointer p)] = some #[.pointer p, .bool false] := by kernel_rfl
def joBuild (ps : Array (Nat × Value)) : Sem Value := Instr.build 55 ps
@[go_sem ↓] theorem build_jo (ps : Array (Nat × Value)) : Instr.build 55 ps = joBuild ps := rfl
@[go_sem] theorem run_joBuild (w : World) (p : Option Addr) : (joBuild #[(0, .pointer p)]).run Try.prog w = .ok (.agg #[.pointer p, .bool false]) w := run_build w _ _ _ (built_jo p)
def joStore (p v : Value) : Sem Unit := Instr.storeAt 55 p v
@[go_sem ↓] theorem storeAt_jo (p v : Value) : Instr.storeAt 55 p v = joStore p v := rfl
theorem info_jo : (Try.prog.info? 55).map (·.size) = some 2 := by kernel_rfl
theorem run_joStore (w : World) {z : Array Value} (hz : z.size = 2) (a b : Value) (h1 : a.oneCell' = true) (h2 : b.oneCell' = true) :
    (joStore (.pointer (some ⟨w.heap.size, 0, none⟩)) (.agg #[a, b])).run Try.prog (w.alloc (.cells z 55)) = .ok () (w.alloc (.cells #[a, b] 55)) := by
  unfold joStore
  simp only [Instr.storeAt, Instr.sureAddr, Sem.run_bind, Sem.run_pure, Result.andThen]
  rw [run_storeVar_row _ _ 55 55 z #[a, b] (heap_alloc_new w _) (by rw [info_jo]; rfl) (by rw [hz]; rfl) (by simp [h1, h2]), World.setRow_alloc_new]
theorem jnew_yes (n : Nat) (h : Mw n) (w : World) : Calls Try.prog 8 #[.int .i64 n] w fun e w' => (∃ j g, e = .returned (.pointer (some ⟨j, 0, none⟩)) ∧ w.heap.size ≤ j ∧ w.heap.size ≤ g ∧ ∀ D : List Nat, (∀ k ∈ D, k < w.heap.size) → Jo w' (j :: g :: D) j g ⟨firstL n, [⟨0, n, false⟩], 0, false⟩) ∧ Below w.heap.size w w' := by
  have C := Lib.hid (mnew_yes n h w)
  go_enter Try.func8, Try.ntmps8
  go_wp2_with fail
  refine (C.out).mono ?_; rintro f w1 ⟨⟨g, rfl, hg, hm⟩, b1⟩
  have B1 := Lib.hid b1
  have hgl : g < w1.heap.size := (hm [] (fun _ h => by cases h)).dlt g (by simp)
  have HG := Lib.hid (And.intro hg (And.intro hgl hm))
  obtain ⟨W, hW⟩ : ∃ W, w1.alloc (.cells #[.pointer (some ⟨g, 0, none⟩), .bool false] 55) = W := ⟨_, rfl⟩
  have hst := run_joStore w1 (z := #[.pointer none, .bool false]) rfl (.pointer (some ⟨g, 0, none⟩)) (.bool false) rfl rfl
  rw [hW] at hst
  have F : Hid (Below w.heap.size w W ∧ ∀ D : List Nat, (∀ k ∈ D, k < w.heap.size) → Jo W (w1.heap.size :: g :: D) w1.heap.size g ⟨firstL n, [⟨0, n, false⟩], 0, false⟩) := Lib.hid (by
    have hb : Below w1.heap.size w1 W := by rw [← hW]; exact bal (Below.refl _ _)
    refine ⟨below_more B1.out hb, fun D hD => ⟨?_, (HG.out.2.2 D hD).more hb (Nat.le_refl _) (by rw [← hW, size_alloc]; omega), List.mem_cons_self .., by have := HG.out.2.1; omega⟩⟩
    rw [← hW]; exact heap_alloc_new w1 _)
  have H1 := Lib.hid (b1.size)
  clear b1 hg hm hgl
  go_wp2
  go_ret
  exact ⟨⟨w1.heap.size, g, rfl, H1.out, HG.out.1, F.out.2⟩, F.out.1⟩
end Go.Proofs.Ytkpefnjohdjejaa
