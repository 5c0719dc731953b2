/-
  The statements' 'plays': operations done to a model and to the reference's; each tells the same, and both stay of the same words.
-/
import Derived.Test.YtlhpcimbigfmkaaMsa
import Derived.Test.YtlhpcimbigfmkaaMqd
import Derived.Test.YtlhpcimbigfmkaaZme
import Derived.Test.YtlhpcimbigfmkaaMaw
namespace Go.Proofs.Ytlhpcimbigfmkaa
set_option maxRecDepth 100000
open Go.ChangeShapes Go.WideShapes Go.ChangeAt Go.RowKit

theorem wrT_len {wl bl : List Int} {o : Int} {M : List Ed} (h : WrT wl bl o M) : M.length ≤ 4000 := by
  unfold WrT at h
  split at h
  · unfold Tells at h
    split at h
    · rename_i hi
      obtain ⟨_, _, h3, _⟩ := hi
      rw [h.len]
      unfold cnt
      split <;> omega
    · rw [h]; simp
  · rw [h]; simp
/-- both, of the same words -/
structure Pair (w : World) (D : List Nat) (g x : Nat) (wl : List Int) (l : List Bk) (r : Int) : Prop where
  m : Mo w D g wl l r
  r : Rm w D x wl l r
theorem Pair.below {w w' : World} {D : List Nat} {g x : Nat} {wl : List Int} {l : List Bk} {r : Int} (h : Pair w D g x wl l r) (hb : Below w.heap.size w w') : Pair w' D g x wl l r := ⟨h.m.below hb, h.r.below hb⟩
/-- what stays as it was: the operations, the world but for both -/
structure Stay (W0 w wr : World) (g x : Nat) : Prop where
  c : Chg [g, x] w wr
  b : Below W0.heap.size W0 wr
theorem Stay.more {W0 w wr w' : World} {g x : Nat} (h : Stay W0 w wr g x) (hc : Chg [g, x] wr w') (hg : W0.heap.size ≤ g) (hx : W0.heap.size ≤ x) : Stay W0 w w' g x :=
  ⟨h.c.trans hc, hc.below h.b h.b.size (fun k hk => by
    rcases List.mem_cons.1 hk with rfl | hk
    · exact hg
    · rw [List.mem_singleton.1 hk]; exact hx)⟩
theorem chg_l {w w' : World} {g x : Nat} (h : Chg [g] w w') : Chg [g, x] w w' := h.mono fun k hk => by rw [List.mem_singleton.1 hk]; exact List.mem_cons_self ..
theorem chg_r {w w' : World} {g x : Nat} (h : Chg [x] w w') : Chg [g, x] w w' := h.mono fun k hk => by rw [List.mem_singleton.1 hk]; exact List.mem_cons_of_mem _ (List.mem_singleton.2 rfl)

set_option maxHeartbeats 8000000 in
theorem plays_is {D : List Nat} {g x : Nat} {wl : List Int} {l : List Bk} {r : Int} (W0 : World) (ops : List Qx) (v : Value) (w : World) (hv : RA (qoE W0) W0 v ops) (hl : ops.length ≤ 1000) (hb : Below W0.heap.size W0 w) (hg : W0.heap.size ≤ g) (hx : W0.heap.size ≤ x) (hne : g ≠ x) (h : Pair w D g x wl l r) :
    Calls Try.prog 11 #[.pointer (some ⟨g, 0, none⟩), .pointer (some ⟨x, 0, none⟩), v] w fun e w' => e = .returned (.bool true) ∧ (∃ wl' l' r', Pair w' D g x wl' l' r') ∧ Chg [g, x] w w' := by
  obtain ⟨p, cap, rfl, _, _⟩ := ra_shape hv
  have HV := Lib.hid hv
  have HL := Lib.hid hl
  have HN := Lib.hid (show W0.heap.size ≤ g ∧ W0.heap.size ≤ x ∧ g ≠ x ∧ g ∈ D ∧ x ∈ D from ⟨hg, hx, hne, h.m.gD, h.r.gD⟩)
  have ND := Lib.hid (show (∀ k ∈ [g], k ∈ D) ∧ (∀ k ∈ [x], k ∈ D) ∧ x ∉ [g] ∧ g ∉ [x] from ⟨fun k hk => by rw [List.mem_singleton.1 hk]; exact h.m.gD, fun k hk => by rw [List.mem_singleton.1 hk]; exact h.r.gD, fun q => hne (List.mem_singleton.1 q).symm, fun q => hne (List.mem_singleton.1 q)⟩)
  have H0 := Lib.hid (And.intro h (show Stay W0 w w g x from ⟨Chg.refl _ _, hb⟩))
  clear hv hl hg hx hne h hb
  go_enter Try.func11, Try.ntmps11
  go_wp2
  go_loopw [18] (fun i wr => ∃ k : Nat, k ≤ ops.length ∧ i = .int .i64 k ∧ Hid ((∃ wl l r, Pair wr D g x wl l r) ∧ Stay W0 w wr g x)) (fun i _ => ops.length - (intOf i).toNat)
  case atStart => exact ⟨0, Nat.zero_le _, rfl, Lib.hid ⟨⟨_, _, _, H0.out.1⟩, H0.out.2⟩⟩
  case round =>
    clear H0
    obtain ⟨k, hk, rfl, H⟩ := hrel
    by_cases hlt : k < ops.length
    · obtain ⟨b, off, rfl, _, hx⟩ := qo_at (ra_below HV.out H.out.2.b) (by omega)
      obtain ⟨hld, hwf⟩ := hx k hlt
      have i0 : (0 : Int) ≤ (k : Int) := by omega
      have i1 : (k : Int) < (ops.length : Int) := by omega
      have i2 : ¬ (k : Int) < 0 := by omega
      have i3 : IntKind.i64.wrap ((k : Int) + 1) = ((k + 1 : Nat) : Int) := by rw [show (k : Int) + 1 = ((k + 1 : Nat) : Int) by omega]; exact i64_nat _ (by have := HL.out; omega)
      have HK := Lib.hid hlt
      clear hx hk hlt
      generalize ops.getD k default = X at *
      obtain ⟨W, hW, hst, HW⟩ := qo_boxed wr X hwf.one
      obtain ⟨d, n, o, bv, bl⟩ := X
      obtain ⟨wd, wn, wo, _, hrv⟩ := hwf
      simp only at wd wn wo hrv
      obtain ⟨qb, cb, rfl, _, _⟩ := ra_shape hrv
      obtain ⟨wl, l, r, hP⟩ := H.out.1
      have P0 := Lib.hid (hP.below HW.out.2)
      have S0 := Lib.hid (H.out.2.more (Chg.of_below HW.out.2 [g, x]) HN.out.1 HN.out.2.1)
      have BN := Lib.hid (i64_wf wn)
      have BO := Lib.hid (i64_wf wo)
      have RB := Lib.hid (fun w' (hb : Below W0.heap.size W0 w') => ra_below hrv hb)
      have hnq : wr.heap.size ∉ [g, x] := fun q => by
        have h1 := hP.m.dlt g hP.m.gD
        have h2 := hP.r.dlt x hP.r.gD
        rcases List.mem_cons.1 q with q | q
        · omega
        · have := List.mem_singleton.1 q; omega
      have c0 : W.cell? ⟨wr.heap.size, 0, none⟩ = some (.int .i64 d) := HW.out.1.c0
      have c1 : ∀ w', Chg [g, x] W w' → w'.cell? ⟨wr.heap.size, 1, none⟩ = some (.int .i64 n) := fun w' hc => (HW.out.1.chg hc hnq).c1
      have c2 : ∀ w', Chg [g, x] W w' → w'.cell? ⟨wr.heap.size, 2, none⟩ = some (.int .i64 o) := fun w' hc => (HW.out.1.chg hc hnq).c2
      have c3 : ∀ w', Chg [g, x] W w' → w'.cell? ⟨wr.heap.size, 3, none⟩ = some (.slice qb bl.length cb) := fun w' hc => (HW.out.1.chg hc hnq).c3
      have c3w := c3 W (Chg.refl _ _)
      clear hP wd wn wo hrv hnq
      by_cases hL : (bl.length : Int) > 500
      · have E := Lib.hid (show (∃ wl' l' r', Pair W D g x wl' l' r') ∧ Chg [g, x] w W from ⟨⟨_, _, _, P0.out⟩, S0.out.c⟩)
        clear c0 c1 c2 c3
        go_wp2
        go_ret
        exact ⟨rfl, E.out⟩
      · have HBL := Lib.hid (show bl.length ≤ 500 by omega)
        by_cases d0 : d = 0
        · have e0 : (d == 0) = true := by rw [d0]; rfl
          clear d0
          go_wp2_with fail
          go_region_held3 (fun w' => Chg [g, x] W w')
            (first | assumption | exact (Chg.refl _ _).drew)
            (first
              | (go_at_call 16; refine (mofs_is n _ (P0.out.m.below (Below.refl _ _).drew)).mono ?_; rintro e w1 ⟨⟨v1, rfl, o1⟩, b1⟩
                 have BB1 : Below W.heap.size W w1 := below_more ((Below.refl W.heap.size W).drew) b1
                 have P1 := Lib.hid (P0.out.below BB1)
                 have O1 := Lib.hid o1.ri
                 have SC1 := Chg.of_below BB1 [g, x]
                 clear b1 o1)
              | (go_at_call 29; refine (rmfit_is n _ P1.out.r).mono ?_; rintro e w2 ⟨⟨v2, rfl, o2⟩, b2⟩
                 have P2 := Lib.hid (P1.out.below b2)
                 have O2 := Lib.hid (And.intro (ri_below O1.out b2) o2.ri)
                 have SC2 := SC1.trans (Chg.of_below b2 [g, x])
                 clear b2 o2 SC1)
              | (go_at_call 28; refine (ints_same O2.out.1 O2.out.2).mono ?_; rintro e w3 ⟨rfl, nn, rfl⟩
                 have P3 := Lib.hid (P2.out.below (below_drewN (Below.refl _ _) nn))
                 have SC3 := SC2.drewN nn
                 clear SC2)
              | (go_at_call 17; refine (malloc_is n o _ P3.out.m).mono ?_; rintro e w4 ⟨rfl, m4, k4⟩
                 have P4 := Lib.hid (And.intro m4 (P3.out.r.chg k4 ND.out.1 ND.out.2.2.1))
                 have SC4 := SC3.trans (chg_l k4)
                 clear m4 k4 SC3)
              | (go_at_call 30; refine (rmalloc_is n o _ P4.out.2).mono ?_; rintro e wz ⟨rfl, m5, k5⟩
                 have PN := Lib.hid (Pair.mk (P4.out.1.chg k5 ND.out.2.1 ND.out.2.2.2) m5)
                 have SC5 := SC4.trans (chg_r k5)
                 clear m5 k5 SC4))
          have CN := Lib.hid SC5
          clear SC5
          generalize (alQ (needN n) l o).isSome = q at *
          have CS := Lib.hid (same_models wz PN.out.m PN.out.r)
          have SN := Lib.hid (S0.out.more CN.out HN.out.1 HN.out.2.1)
          clear c1 c2 c3 c3w CN
          go_wp2_with fail
          refine (CS.out).mono ?_; rintro e wt ⟨rfl, bt⟩
          have PT := Lib.hid (show (∃ wl l r, Pair wt D g x wl l r) ∧ Stay W0 w wt g x from ⟨⟨_, _, _, PN.out.below bt⟩, SN.out.more (Chg.of_below bt [g, x]) HN.out.1 HN.out.2.1⟩)
          clear bt CS PN SN
          go_wp2
          go_roundw
          case rel => exact ⟨k + 1, by have := HK.out; omega, by go_num, PT⟩
          case measure => have := HK.out; simp [intOf]; omega
        · have e0 : (d == 0) = false := beq_eq_false_iff_ne.2 d0
          clear d0
          by_cases d1 : d = 1
          · have e1 : (d == 1) = true := by rw [d1]; rfl
            clear d1
            go_wp2_with fail
            go_region_held3 (fun w' => Chg [g, x] W w')
              (first | assumption | exact (Chg.refl _ _).drew)
              (first
                | (go_at_call 18; refine (mfree_is o _ (P0.out.m.below (Below.refl _ _).drew)).mono ?_; rintro e w4 ⟨rfl, m4, k4⟩
                   have P4 := Lib.hid (And.intro m4 ((P0.out.r.below (Below.refl _ _).drew).chg k4 ND.out.1 ND.out.2.2.1))
                   have SC4 : Chg [g, x] W w4 := chg_l k4.from_drew
                   clear m4 k4)
                | (go_at_call 31; refine (rmfree_is o _ P4.out.2).mono ?_; rintro e wz ⟨rfl, m5, k5⟩
                   have PN := Lib.hid (Pair.mk (P4.out.1.chg k5 ND.out.2.1 ND.out.2.2.2) m5)
                   have SC5 := SC4.trans (chg_r k5)
                   clear m5 k5 SC4))
            have CN := Lib.hid SC5
            clear SC5
            generalize feQ l o r = q at *
            have CS := Lib.hid (same_models wz PN.out.m PN.out.r)
            have SN := Lib.hid (S0.out.more CN.out HN.out.1 HN.out.2.1)
            clear c1 c2 c3 c3w CN
            go_wp2_with fail
            refine (CS.out).mono ?_; rintro e wt ⟨rfl, bt⟩
            have PT := Lib.hid (show (∃ wl l r, Pair wt D g x wl l r) ∧ Stay W0 w wt g x from ⟨⟨_, _, _, PN.out.below bt⟩, SN.out.more (Chg.of_below bt [g, x]) HN.out.1 HN.out.2.1⟩)
            clear bt CS PN SN
            go_wp2
            go_roundw
            case rel => exact ⟨k + 1, by have := HK.out; omega, by go_num, PT⟩
            case measure => have := HK.out; simp [intOf]; omega
          · have e1 : (d == 1) = false := beq_eq_false_iff_ne.2 d1
            clear d1
            by_cases d2 : d = 2
            · have e2 : (d == 2) = true := by rw [d2]; rfl
              clear d2
              go_wp2_with fail
              go_region_held3 (fun w' => Chg [g, x] W w')
                (first | assumption | exact (Chg.refl _ _).drew)
                (first
                  | (go_at_call 19; refine (mwrite_is o bl _ _ (P0.out.m.below (Below.refl _ _).drew) (RB.out _ S0.out.b.drew) (by have := HBL.out; omega)).mono ?_; rintro e w4 ⟨rfl, M, hM, m4, k4⟩
                     have P4 := Lib.hid (And.intro m4 ((P0.out.r.below (Below.refl _ _).drew).chg k4 ND.out.1 ND.out.2.2.1))
                     have HM := Lib.hid hM
                     have SC4 : Chg [g, x] W w4 := chg_l k4.from_drew
                     have S4 := Lib.hid (S0.out.more SC4 HN.out.1 HN.out.2.1)
                     clear m4 k4 hM)
                  | (go_at_call 32; refine (rmwrite_is o bl _ _ P4.out.2 (RB.out _ S4.out.b) (by have := HBL.out; omega) BO.out (appF wl M) (fun M' h' => ⟨by rw [h'.one HM.out], wrT_len h'⟩) P4.out.1.hB P4.out.1.ok).mono ?_; rintro e wz ⟨rfl, m5, k5⟩
                     have PN := Lib.hid (Pair.mk (P4.out.1.chg k5 ND.out.2.1 ND.out.2.2.2) m5)
                     have SC5 := SC4.trans (chg_r k5)
                     clear m5 k5 SC4))
              have CN := Lib.hid SC5
              clear SC5
              generalize refF wl o bl.length = q at *
              have CS := Lib.hid (same_models wz PN.out.m PN.out.r)
              have SN := Lib.hid (S0.out.more CN.out HN.out.1 HN.out.2.1)
              clear c1 c2 c3 c3w CN
              go_wp2_with fail
              refine (CS.out).mono ?_; rintro e wt ⟨rfl, bt⟩
              have PT := Lib.hid (show (∃ wl l r, Pair wt D g x wl l r) ∧ Stay W0 w wt g x from ⟨⟨_, _, _, PN.out.below bt⟩, SN.out.more (Chg.of_below bt [g, x]) HN.out.1 HN.out.2.1⟩)
              clear bt CS PN SN
              go_wp2
              go_roundw
              case rel => exact ⟨k + 1, by have := HK.out; omega, by go_num, PT⟩
              case measure => have := HK.out; simp [intOf]; omega
            · have e2 : (d == 2) = false := beq_eq_false_iff_ne.2 d2
              clear d2
              by_cases d3 : d = 3
              · have e3 : (d == 3) = true := by rw [d3]; rfl
                clear d3
                go_wp2_with fail
                go_region_held3 (fun w' => Chg [g, x] W w')
                  (first | assumption | exact (Chg.refl _ _).drew)
                  (first
                    | (go_at_call 20; refine (msetr_is o _ (P0.out.m.below (Below.refl _ _).drew)).mono ?_; rintro e w4 ⟨rfl, m4, k4⟩
                       have P4 := Lib.hid (And.intro m4 ((P0.out.r.below (Below.refl _ _).drew).chg k4 ND.out.1 ND.out.2.2.1))
                       have SC4 : Chg [g, x] W w4 := chg_l k4.from_drew
                       clear m4 k4)
                    | (go_at_call 33; refine (rmsetr_is o _ P4.out.2).mono ?_; rintro e wz ⟨rfl, m5, k5⟩
                       have PN := Lib.hid (Pair.mk (P4.out.1.chg k5 ND.out.2.1 ND.out.2.2.2) m5)
                       have SC5 := SC4.trans (chg_r k5)
                       clear m5 k5 SC4))
                have CN := Lib.hid SC5
                clear SC5
                generalize srQ l o = q at *
                have CS := Lib.hid (same_models wz PN.out.m PN.out.r)
                have SN := Lib.hid (S0.out.more CN.out HN.out.1 HN.out.2.1)
                clear c1 c2 c3 c3w CN
                go_wp2_with fail
                refine (CS.out).mono ?_; rintro e wt ⟨rfl, bt⟩
                have PT := Lib.hid (show (∃ wl l r, Pair wt D g x wl l r) ∧ Stay W0 w wt g x from ⟨⟨_, _, _, PN.out.below bt⟩, SN.out.more (Chg.of_below bt [g, x]) HN.out.1 HN.out.2.1⟩)
                clear bt CS PN SN
                go_wp2
                go_roundw
                case rel => exact ⟨k + 1, by have := HK.out; omega, by go_num, PT⟩
                case measure => have := HK.out; simp [intOf]; omega
              · have e3 : (d == 3) = false := beq_eq_false_iff_ne.2 d3
                clear d3
                have d1 := c1 W (Chg.refl _ _)
                have d2 := c2 W (Chg.refl _ _)
                go_wp2_with fail
                refine (mread_is o n _ P0.out.m).mono ?_; rintro e w4 ⟨⟨v4, rfl, o4⟩, b4⟩
                have P4 := Lib.hid (P0.out.below b4)
                have O4 := Lib.hid o4.ra
                have SC4 := Lib.hid (Chg.of_below b4 [g, x])
                have d3 := c1 w4 SC4.out
                have d4 := c2 w4 SC4.out
                clear b4 o4 d1 d2
                go_wp2_with fail
                refine (rmread_is o n _ P4.out.r BO.out BN.out).mono ?_; rintro e wz ⟨⟨v5, rfl, o5⟩, b5⟩
                have PN := Lib.hid (P4.out.below b5)
                have s1 := run_strConv (ra_below O4.out b5)
                have s2 := run_strConv o5.ra
                have CN := Lib.hid (SC4.out.trans (Chg.of_below b5 [g, x]))
                clear b5 o5 d3 d4
                generalize refF wl o n = q at *
                generalize strOfNums (rdR wl o n) = str at *
                have CS := Lib.hid (same_models wz PN.out.m PN.out.r)
                have SN := Lib.hid (S0.out.more CN.out HN.out.1 HN.out.2.1)
                clear c1 c2 c3 c3w CN
                go_wp2_with fail
                refine (CS.out).mono ?_; rintro e wt ⟨rfl, bt⟩
                have PT := Lib.hid (show (∃ wl l r, Pair wt D g x wl l r) ∧ Stay W0 w wt g x from ⟨⟨_, _, _, PN.out.below bt⟩, SN.out.more (Chg.of_below bt [g, x]) HN.out.1 HN.out.2.1⟩)
                clear bt CS PN SN
                go_wp2
                go_roundw
                case rel => exact ⟨k + 1, by have := HK.out; omega, by go_num, PT⟩
                case measure => have := HK.out; simp [intOf]; omega
    · obtain rfl : k = ops.length := by omega
      have HE := Lib.hid H.out
      go_wp2
      go_ret
      exact ⟨rfl, HE.out.1, HE.out.2.c⟩
end Go.Proofs.Ytlhpcimbigfmkaa
