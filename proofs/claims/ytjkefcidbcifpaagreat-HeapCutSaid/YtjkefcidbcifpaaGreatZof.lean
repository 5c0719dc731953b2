import Derived.Deep.RegionLaw
import Derived.Deep.RegionWith
import Derived.Test.YtjkefcidbcifpaaGreatZoe
set_option maxRecDepth 100000
set_option maxHeartbeats 8000000
namespace Go.Proofs.YtjkefcidbcifpaaGreat
open Go.ChangeShapes Go.WideShapes Go.ChangeAt Go.RowKit
theorem step_else {w : World} {a : Ha} {S : Hs} {K : Nat} {X : List Int} {r : Nat} {D : List Nat} {g : Nat} {l : List Bk} (x : Px) (hp : Hp w a S) (hi : HI a S K X r) (hK : K < 1000) (hco : S.s.comes = false) (hm : Rm w D g X l (r : Int)) (hD : ∀ k ∈ a.D, k ∈ D) (hg : g ∉ a.D) (hx : PxOk w x) (hxf : x.bl = [] \/ ∀ k, x.v.ownBlock = some k -> k ∉ a.D) (hk : ¬ (1 <= x.d /\ x.d <= 6)) :
 Calls Tryz.prog 17 #[.pointer (some ⟨a.z, 0, none⟩), .pointer (some ⟨g, 0, none⟩), .agg (pxc x)] w fun e w' => SOutH w w' a S K D g e := by
 obtain ⟨W0, hW0⟩ : ∃ W0, w.alloc (.cells (pxc x) 37) = W0 := ⟨_, rfl⟩
 have B0 := jz (show Below w.heap.size w W0 from by rw [<- hW0]; exact bal (Below.refl _ _))
 have PX := jz (show Pxv W0 w.heap.size x from by rw [<- hW0]; exact Pxv.new w x)
 obtain ⟨qx, cx, hxv, _⟩ := ra_shape hx.v
 have HX := jz hx
 have HXF := jz hxf
 have HI0 := jz hi
 have HP0 := jz hp
 have HM0 := jz hm
 have HKK := jz hK
 have HCO := jz hco
 have HDD := jz (And.intro hD hg)
 have HB := jz (show blkF X = some l from hm.hB)
 have C1 := jz (hWords_is (hp.below B0.out).hb hi.num hi.hc.lg hi.live hi.hc.has)
 have C2 := jz (fun w' (hb : Below W0.heap.size W0 w') => hcnt_is ((hp.below B0.out).below hb) (by have := hi.cn; have := hi.num.N; omega))
 have C3 := jz (fun w' (hb : Below W0.heap.size W0 w') => hworn_is ((hp.below B0.out).below hb) hi.live hi.hc.lg.r1)
 have C4 := jz (fun w' (hb : Below W0.heap.size W0 w') => hdo_is x ((hp.below B0.out).below hb) hi hK ((hx.below B0.out).below hb))
 have LX : Hid (∀ w', Pxv w' w.heap.size x -> (pxLoad (.pointer (some ⟨w.heap.size, 0, none⟩))).run Tryz.prog w' = .ok (.agg (pxc x)) w') := jz fun w' h => run_pxLoad fun j u hj => by rw [Whole.at_ h, Nat.zero_add, <- hj]; simp [pxc]
 have HXv := jz hxv
 obtain ⟨bw, hbw⟩ : ∃ b, S.worn = b := ⟨_, rfl⟩
 rw [hbw] at C3
 have HBW := jz hbw
 clear hp hi hK hco hm hD hg hx hxf hbw hxv
 obtain ⟨z, hz⟩ : ∃ z, a.z = z := ⟨_, rfl⟩
 have HZ := jz hz
 rw [hz] at C1 C2 C3 C4 ⊢
 clear hz
 obtain ⟨xc, hxc⟩ : ∃ xc, pxc x = xc := ⟨_, rfl⟩
 have HXC := jz hxc
 rw [hxc] at C4 LX hW0 ⊢
 clear hxc
 have i1 : (x.d == 1) = false := beq_eq_false_iff_ne.2 (by omega)
 have i2 : (x.d == 2) = false := beq_eq_false_iff_ne.2 (by omega)
 have i3 : (x.d == 3) = false := beq_eq_false_iff_ne.2 (by omega)
 have i4 : (x.d == 4) = false := beq_eq_false_iff_ne.2 (by omega)
 have i5 : (x.d == 5) = false := beq_eq_false_iff_ne.2 (by omega)
 have i6 : (x.d == 6) = false := beq_eq_false_iff_ne.2 (by omega)
 have HK0 := jz hk
 clear hk
 go_enter Tryz.func17, Tryz.ntmps17
 go_wp2_with fail
 refine (C1.out).mono ?_; rintro e w1 ⟨⟨v1, rfl, o1⟩, b1⟩
 have D1 := jz b1
 have O1 := jz o1
 obtain ⟨q1, c1, rfl⟩ := o1.shape
 clear o1 b1
 go_wp2_with fail
 refine (C2.out _ D1.out).mono ?_; rintro e w2 ⟨⟨v2, rfl, o2⟩, b2⟩
 have D2 := jz (below_more D1.out b2)
 have O1b := jz (O1.out.below b2)
 have O2 := jz o2
 obtain ⟨q2, c2, rfl, _⟩ := o2.ri
 clear o2 b2
 go_wp2_with fail
 refine (C3.out _ D2.out).mono ?_; rintro e w3 ⟨rfl, rfl⟩
 have lx2 := LX.out _ (PX.out.below D2.out)
 go_wp2_with fail
 refine (C4.out _ D2.out).mono ?_; rintro e w3 ho
 obtain ⟨S', hp3, hc3, la3, co3, n3, hcalm⟩ := do_calm HI0.out HKK.out HCO.out ho
 have H3 := jz (And.intro hp3 (And.intro la3 (And.intro co3 n3)))
 have CH3 := jz hc3
 have HN0 : Hid (w.heap.size < W0.heap.size /\ (∀ k ∈ a.D, k < w.heap.size) /\ g < w.heap.size) := jz ⟨PX.out.lt, fun k hk => HM0.out.dlt k (HDD.out.1 k hk), HM0.out.dlt g HM0.out.gD⟩
 have PX3 := jz ((PX.out.below D2.out).chg hc3 (fun q => by have := HN0.out.2.1 _ q; omega))
 have OW3 := jz (own_chg_u O1b.out hc3 (fun k hk => by have := HN0.out.2.1 _ hk; have := HN0.out.1; omega))
 have OI3 := jz (own_chg_h O2.out hc3 (fun k hk => by have := HN0.out.2.1 _ hk; have := HN0.out.1; have := D1.out.size; omega))
 have XV3 : Hid (RA byE w3 (.slice qx x.bl.length cx) x.bl) := jz (by rw [<- HXv.out]; exact ra_chg_or (ra_below (ra_below HX.out.v B0.out) D2.out) hc3 HXF.out)
 have RM3 := jz (((HM0.out.below B0.out).below D2.out).chg hc3 HDD.out.1 HDD.out.2)
 clear hp3 hc3 la3 co3 n3 ho C1 C2 C3 C4 lx2
 cases hcalm
 case goes pl v h1 h2 h3 h4 h5 h6 h7 h8 h9 =>
  have hpl : pl = plNo X r 1 := h1.one (planE HK0.out)
  subst hpl
  have hSS : S' = S := h9 (.inl rfl)
  have HIX := jz (show HI a S' (K + 1) X r from h5)
  have HFR : Hid ((Free S.s -> S.worn = false -> Free S'.s /\ S'.worn = false) /\ (S'.wf = S.wf \/ ¬ Free S.s)) := jz (by rw [hSS]; exact ⟨fun F q => ⟨F, q⟩, .inl rfl⟩)
  have HW' := jz (show S'.worn = bw from by rw [hSS]; exact HBW.out)
  have h2' : e = .returned (.agg (anc 1 0 v)) := h2
  clear h2
  subst h2'
  have h3' : OwnA byE w2.heap.size w3 v [] := h3
  clear h1 h4 h5 h6 h7 h8 h9 hSS h3
  show _
  have hv1 := ra_one h3'.ra
  obtain ⟨W4, hW4, hst4, HA4⟩ := an_boxed w3 1 0 hv1
  have OV4 := jz (h3'.below HA4.out.2)
  have A4 := jz HA4.out.1
  have B4 := jz HA4.out.2
  obtain ⟨qv, cv, hvv, _⟩ := ra_shape h3'.ra
  obtain ⟨nv, hnv⟩ : ∃ n, List.length ([] : List Int) = n := ⟨_, rfl⟩
  rw [hnv] at hvv
  subst hvv
  have la4 := A4.out.load
  have ce4 := A4.out.c0
  have SA := jz (rsame_is (w := W4) (e := 1) (o := 0) (e' := 1) (o' := 0) (v' := .slice none 0 0) (l' := []) OV4.out.ra (own_nil_by 0 W4).ra)
  rw [show decide ((1 : Int) = 1 /\ (0 : Int) = 0 /\ ([] : List Int) = []) = true by decide] at SA
  have RM4 := jz (RM3.out.below B4.out)
  have HS4 : Hid (w3.heap.size < W4.heap.size /\ w.heap.size < w3.heap.size) := jz ⟨A4.out.lt, by have := HN0.out.1; have := D2.out.size; have := CH3.out.size; omega⟩
  go_wp2_with fail
  refine (SA.out).mono ?_; rintro e w5 ⟨rfl, b5⟩
  have B5 := jz b5
  have RM5 := jz (RM4.out.below b5)
  have CL := jz (rclone_is _ RM5.out)
  clear b5 la4 ce4 SA hv1
  go_wp2_with fail
  refine (CL.out).mono ?_; rintro e w6 ⟨⟨xw, rfl, hxw, hxw2, hRx⟩, b6⟩
  have RX := jz hRx
  have RG := jz (RM5.out.more b6 hxw hxw2)
  have BB := jz (below_more B5.out b6)
  have A6 := jz ((A4.out.below BB.out))
  have PX6 := jz (((PX3.out.below B4.out).below BB.out))
  have HXW : Hid (w3.heap.size < xw /\ xw ≠ g) := jz (by have := B5.out.size; have := HS4.out; have := HN0.out; omega)
  have B36 := jz (below_more B4.out BB.out)
  clear hRx hxw hxw2 b6 CL
  have e6 := A6.out.c0
  have o6 := A6.out.c1
  have d6 := A6.out.c2
  have k6 := PX6.out.c0
  have k6o := PX6.out.c1
  have k6n := PX6.out.c2
  have k6v := PX6.out.c4
  rw [HXv.out] at k6v
  have CHW := jz ((Chg.of_below (below_more B0.out D2.out) (g :: a.D)).trans (CH3.out.mono fun k hk => List.mem_cons_of_mem _ hk))
  have lw := A6.out
  have F := jz (show SOutH w w6 a S K D g (.returned (.int .i64 0)) from ⟨rfl, S', X, l, r, H3.out.1.below B36.out, HIX.out, H3.out.2.1, H3.out.2.2.1, H3.out.2.2.2, RM3.out.below B36.out, CHW.out.trans (Chg.of_below B36.out _), HFR.out.1, HFR.out.2⟩)
  generalize x.d = xd at *
  generalize x.o = xo at *
  generalize x.nn = xn at *
  cases bw
  . go_wp2_with fail
    go_ret
    exact F.out
  . go_wp2_with fail
    go_ret
    exact F.out
 case worn pl v h1 h2 h3 h4 h5 h6 =>
  have hpl : pl = plNo X r 1 := h1.one (planE HK0.out)
  rw [hpl] at h4; cases h4
 case wears pl v h1 h2 h3 h4 h5 h6 h7 h8 h9 =>
  have hpl : pl = plNo X r 1 := h1.one (planE HK0.out)
  rw [hpl] at h4; cases h4.1
theorem step_free {w : World} {a : Ha} {S : Hs} {K : Nat} {X : List Int} {r : Nat} {D : List Nat} {g : Nat} {l : List Bk} (x : Px) (hp : Hp w a S) (hi : HI a S K X r) (hK : K < 1000) (hco : S.s.comes = false) (hm : Rm w D g X l (r : Int)) (hD : ∀ k ∈ a.D, k ∈ D) (hg : g ∉ a.D) (hx : PxOk w x) (hxf : x.bl = [] \/ ∀ k, x.v.ownBlock = some k -> k ∉ a.D) (hk : x.d = 2) :
 Calls Tryz.prog 17 #[.pointer (some ⟨a.z, 0, none⟩), .pointer (some ⟨g, 0, none⟩), .agg (pxc x)] w fun e w' => SOutH w w' a S K D g e := by
 obtain ⟨W0, hW0⟩ : ∃ W0, w.alloc (.cells (pxc x) 37) = W0 := ⟨_, rfl⟩
 have B0 := jz (show Below w.heap.size w W0 from by rw [<- hW0]; exact bal (Below.refl _ _))
 have PX := jz (show Pxv W0 w.heap.size x from by rw [<- hW0]; exact Pxv.new w x)
 obtain ⟨qx, cx, hxv, _⟩ := ra_shape hx.v
 have HX := jz hx
 have HXF := jz hxf
 have HI0 := jz hi
 have HP0 := jz hp
 have HM0 := jz hm
 have HKK := jz hK
 have HCO := jz hco
 have HDD := jz (And.intro hD hg)
 have HB := jz (show blkF X = some l from hm.hB)
 have C1 := jz (hWords_is (hp.below B0.out).hb hi.num hi.hc.lg hi.live hi.hc.has)
 have C2 := jz (fun w' (hb : Below W0.heap.size W0 w') => hcnt_is ((hp.below B0.out).below hb) (by have := hi.cn; have := hi.num.N; omega))
 have C3 := jz (fun w' (hb : Below W0.heap.size W0 w') => hworn_is ((hp.below B0.out).below hb) hi.live hi.hc.lg.r1)
 have C4 := jz (fun w' (hb : Below W0.heap.size W0 w') => hdo_is x ((hp.below B0.out).below hb) hi hK ((hx.below B0.out).below hb))
 have LX : Hid (∀ w', Pxv w' w.heap.size x -> (pxLoad (.pointer (some ⟨w.heap.size, 0, none⟩))).run Tryz.prog w' = .ok (.agg (pxc x)) w') := jz fun w' h => run_pxLoad fun j u hj => by rw [Whole.at_ h, Nat.zero_add, <- hj]; simp [pxc]
 have HXv := jz hxv
 obtain ⟨bw, hbw⟩ : ∃ b, S.worn = b := ⟨_, rfl⟩
 rw [hbw] at C3
 have HBW := jz hbw
 clear hp hi hK hco hm hD hg hx hxf hbw hxv
 obtain ⟨z, hz⟩ : ∃ z, a.z = z := ⟨_, rfl⟩
 have HZ := jz hz
 rw [hz] at C1 C2 C3 C4 ⊢
 clear hz
 obtain ⟨xc, hxc⟩ : ∃ xc, pxc x = xc := ⟨_, rfl⟩
 have HXC := jz hxc
 rw [hxc] at C4 LX hW0 ⊢
 clear hxc
 have HK0 := jz hk
 clear hk
 go_enter Tryz.func17, Tryz.ntmps17
 go_wp2_with fail
 refine (C1.out).mono ?_; rintro e w1 ⟨⟨v1, rfl, o1⟩, b1⟩
 have D1 := jz b1
 have O1 := jz o1
 obtain ⟨q1, c1, rfl⟩ := o1.shape
 clear o1 b1
 go_wp2_with fail
 refine (C2.out _ D1.out).mono ?_; rintro e w2 ⟨⟨v2, rfl, o2⟩, b2⟩
 have D2 := jz (below_more D1.out b2)
 have O1b := jz (O1.out.below b2)
 have O2 := jz o2
 obtain ⟨q2, c2, rfl, _⟩ := o2.ri
 clear o2 b2
 go_wp2_with fail
 refine (C3.out _ D2.out).mono ?_; rintro e w3 ⟨rfl, rfl⟩
 have lx2 := LX.out _ (PX.out.below D2.out)
 go_wp2_with fail
 refine (C4.out _ D2.out).mono ?_; rintro e w3 ho
 obtain ⟨S', hp3, hc3, la3, co3, n3, hcalm⟩ := do_calm HI0.out HKK.out HCO.out ho
 have H3 := jz (And.intro hp3 (And.intro la3 (And.intro co3 n3)))
 have CH3 := jz hc3
 have HN0 : Hid (w.heap.size < W0.heap.size /\ (∀ k ∈ a.D, k < w.heap.size) /\ g < w.heap.size) := jz ⟨PX.out.lt, fun k hk => HM0.out.dlt k (HDD.out.1 k hk), HM0.out.dlt g HM0.out.gD⟩
 have PX3 := jz ((PX.out.below D2.out).chg hc3 (fun q => by have := HN0.out.2.1 _ q; omega))
 have OW3 := jz (own_chg_u O1b.out hc3 (fun k hk => by have := HN0.out.2.1 _ hk; have := HN0.out.1; omega))
 have OI3 := jz (own_chg_h O2.out hc3 (fun k hk => by have := HN0.out.2.1 _ hk; have := HN0.out.1; have := D1.out.size; omega))
 have XV3 : Hid (RA byE w3 (.slice qx x.bl.length cx) x.bl) := jz (by rw [<- HXv.out]; exact ra_chg_or (ra_below (ra_below HX.out.v B0.out) D2.out) hc3 HXF.out)
 have RM3 := jz (((HM0.out.below B0.out).below D2.out).chg hc3 HDD.out.1 HDD.out.2)
 clear hp3 hc3 la3 co3 n3 ho C1 C2 C3 C4 lx2
 cases hcalm
 case goes pl v h1 h2 h3 h4 h5 h6 h7 h8 h9 =>
  have hd : x.d = 2 := HK0.out
  have hi0 := HI0.out
  rw [hd] at h1
  have WP := jz (want2 hi0.hc.ok HB.out h1)
  have hoff := WP.out.off
  have hdat := WP.out.data
  obtain ⟨Q, hQ⟩ : ∃ Q, feQ l x.o r = Q := ⟨_, rfl⟩
  rw [hQ] at WP
  have PR : Hid (Q ≠ 0 -> pl.X = X /\ pl.r = r) := jz fun q => by
   have p := plan_rest h1 (fun _ => by rw [WP.out.e]; exact q)
   exact ⟨p.1, p.2.1⟩
  have HIX : Hid (HI a S' (K + 1) pl.X pl.r) := jz h5
  have HFR : Hid ((Free S.s -> S.worn = false -> Free S'.s /\ S'.worn = false) /\ (S'.wf = S.wf \/ ¬ Free S.s)) := jz ⟨fun F q => by
   have hw2 := worn_no q
   obtain ⟨f1, f2⟩ := h7 F hw2.2
   exact ⟨f1, by unfold Hs.worn; rw [h8, hw2.1, f2]; rfl⟩, .inl h8⟩
  have HCH : Hid (pl.ch = true -> bw = false) := jz fun q => by rw [<- HBW.out]; exact h4 q
  rw [hoff, WP.out.e] at h2
  rw [hdat] at h3
  subst h2
  have h3' := h3
  clear h1 h3 h4 h5 h6 h7 h8 h9 hoff hdat hi0 hd
  have hv1 := ra_one h3'.ra
  obtain ⟨W4, hW4, hst4, HA4⟩ := an_boxed w3 Q 0 hv1
  have OV4 := jz (h3'.below HA4.out.2)
  have A4 := jz HA4.out.1
  have B4 := jz HA4.out.2
  obtain ⟨qv, cv, hvv, _⟩ := ra_shape h3'.ra
  obtain ⟨nv, hnv⟩ : ∃ n, List.length ([] : List Int) = n := ⟨_, rfl⟩
  rw [hnv] at hvv
  subst hvv
  have la4 := A4.out.load
  have ce4 := A4.out.c0
  have SA := jz (rsame_is (w := W4) (e := Q) (o := 0) (e' := Q) (o' := 0) (v' := .slice none 0 0) (l' := []) OV4.out.ra (own_nil_by 0 W4).ra)
  rw [show decide ((Q : Int) = Q /\ (0 : Int) = 0 /\ ([] : List Int) = []) = true by simp] at SA
  have RM4 := jz (RM3.out.below B4.out)
  have HS4 : Hid (w3.heap.size < W4.heap.size /\ w.heap.size < w3.heap.size) := jz ⟨A4.out.lt, by have := HN0.out.1; have := D2.out.size; have := CH3.out.size; omega⟩
  go_wp2_with fail
  refine (SA.out).mono ?_; rintro e w5 ⟨rfl, b5⟩
  have B5 := jz b5
  have RM5 := jz (RM4.out.below b5)
  have CL := jz (rclone_is _ RM5.out)
  clear b5 la4 ce4 SA hv1
  go_wp2_with fail
  refine (CL.out).mono ?_; rintro e w6 ⟨⟨xw, rfl, hxw, hxw2, hRx⟩, b6⟩
  have RX := jz hRx
  have RG := jz (RM5.out.more b6 hxw hxw2)
  have BB := jz (below_more B5.out b6)
  have A6 := jz ((A4.out.below BB.out))
  have PX6 := jz (((PX3.out.below B4.out).below BB.out))
  have HXW : Hid (w3.heap.size < xw /\ xw ≠ g) := jz (by have := B5.out.size; have := HS4.out; have := HN0.out; omega)
  have B36 := jz (below_more B4.out BB.out)
  clear hRx hxw hxw2 b6 CL
  have e6 := A6.out.c0
  have o6 := A6.out.c1
  have d6 := A6.out.c2
  have k6 := PX6.out.c0
  have k6o := PX6.out.c1
  have k6n := PX6.out.c2
  have k6v := PX6.out.c4
  rw [HXv.out] at k6v
  have CHW := jz ((Chg.of_below (below_more B0.out D2.out) (g :: a.D)).trans (CH3.out.mono fun k hk => List.mem_cons_of_mem _ hk))
  have CA := jz (rmfree_is x.o w6 RX.out)
  rw [hQ] at CA
  rw [HK0.out] at k6
  go_wp2_with fail
  refine (CA.out).mono ?_; rintro e w7 ⟨rfl, hR7, c7⟩
  have A7 := jz (A6.out.chg c7 (by have := HXW.out; simp; omega))
  have PX7 := jz (PX6.out.chg c7 (by have := HXW.out; have := HS4.out; simp; omega))
  have B37 := jz (c7.below B36.out B36.out.size (fun k hk => by rw [List.mem_singleton.1 hk]; have := HXW.out; omega))
  have RG7 := jz (RG.out.chg c7 (fun k hk => by rw [List.mem_singleton.1 hk]; exact List.mem_cons_self ..) (by have := HXW.out; simp; omega))
  have R7 := jz hR7
  clear hR7 c7 e6 o6 d6 k6 k6o k6n k6v
  have e7 := A7.out.c0
  have k7 := PX7.out.c0
  have k7v := PX7.out.c4
  rw [HXv.out] at k7v
  rw [HK0.out] at k7
  by_cases h0 : Q = 0
  . subst h0
    have FE := jz (fun wf (c : Chg [g] w3 wf) (m : Rm wf D g pl.X (feB l x.o r) ((pl.r : Nat) : Int)) => sout_fin H3.out.1 RM3.out HDD.out.2 H3.out.2 CHW.out HIX.out HFR.out c m)
    have bd : Below w7.heap.size w7 w7.drew := (Below.refl _ _).drew
    obtain ⟨qt, nt, ct, t1, t2, t3, t4, t5, t6⟩ := Rm.take2 (RG7.out.below bd) (R7.out.below bd) (fun k hk => hk)
    obtain ⟨mv, mW, _⟩ := (RG7.out.below bd).rows
    have hxg : xw ≠ g := HXW.out.2
    have hgx : g ≠ xw := fun q => hxg q.symm
    have m0 : w7.drew.cell? ⟨g, 0, none⟩ = some mv := by rw [Whole.at_ mW]; rfl
    have m1 : w7.drew.cell? ⟨g, 1, none⟩ = some (.int .i64 r) := by rw [Whole.at_ mW]; rfl
    have f0 := Whole.free mW 0
    have f1 := Whole.free mW 1
    have m0' : w7.cell? ⟨g, 0, none⟩ = some mv := m0
    have m1' : w7.cell? ⟨g, 1, none⟩ = some (.int .i64 r) := m1
    have f0' : w7.frozen? ⟨g, 0, none⟩ = false := f0
    have f1' : w7.frozen? ⟨g, 1, none⟩ = false := f1
    have t1' : w7.cell? ⟨xw, 0, none⟩ = some (.slice qt nt ct) := t1
    have t2' : w7.cell? ⟨xw, 1, none⟩ = some (.int .i64 r) := t2
    have FA : Hid (SOutH w ((w7.drew.setCell ⟨g, 0, none⟩ (.slice qt nt ct)).setCell ⟨g, 1, none⟩ (.int .i64 r)) a S K D g (.returned (.int .i64 0)) /\ SOutH w ((w7.drew.setCell ⟨g, 1, none⟩ (.int .i64 r)).setCell ⟨g, 0, none⟩ (.slice qt nt ct)) a S K D g (.returned (.int .i64 0))) := jz (by
     have q : Chg [g] w3 w7.drew := Chg.of_below (B37.out.drew) [g]
     have hX := WP.out.X
     have hr := WP.out.r
     refine ⟨FE.out _ (q.trans t5) ?_, FE.out _ (q.trans t6) ?_⟩
     . rw [hX, hr]; exact t3.less_h (fun k hk => List.mem_cons_of_mem _ hk) HM0.out.gD
     . rw [hX, hr]; exact t4.less_h (fun k hk => List.mem_cons_of_mem _ hk) HM0.out.gD)
    clear t3 t4 t5 t6 mW bd A7 PX7 FE
    have hb0 : bw = false := HCH.out (WP.out.ch.2 ⟨rfl, rfl⟩)
    subst hb0
    clear hQ
    go_wp2
    go_region_law (fail)
    all_goals
     go_wp2
     go_ret
     first | exact FA.out.1 | exact FA.out.2
  . have j0 : (Q == 0) = false := beq_eq_false_iff_ne.2 h0
    have j3 : (Q == 3) = false := beq_eq_false_iff_ne.2 WP.out.n3
    have F : Hid (SOutH w w7 a S K D g (.returned (.int .i64 0))) := jz (sout_fin H3.out.1 RM3.out HDD.out.2 H3.out.2 CHW.out HIX.out HFR.out (Chg.of_below B37.out [g]) (by rw [(PR.out h0).1, (PR.out h0).2]; exact RM3.out.below B37.out))
    clear h0 hQ
    cases bw
    . go_wp2_with fail
      go_ret
      exact F.out
    . go_wp2_with fail
      go_ret
      exact F.out
 case worn pl v h1 h2 h3 h4 h5 h6 =>
  have hd : x.d = 2 := HK0.out
  have hi0 := HI0.out
  rw [hd] at h1
  have WP := jz (want2 hi0.hc.ok HB.out h1)
  have hoff := WP.out.off
  have hdat := WP.out.data
  obtain ⟨Q, hQ⟩ : ∃ Q, feQ l x.o r = Q := ⟨_, rfl⟩
  rw [hQ] at WP
  have HIX : Hid (HI a S' (K + 1) X r) := jz (by have := HKK.out; rw [h6]; exact hi0.more (by omega) (by omega))
  have HFR : Hid ((Free S.s -> S.worn = false -> Free S'.s /\ S'.worn = false) /\ (S'.wf = S.wf \/ ¬ Free S.s)) := jz (by rw [h6]; exact ⟨fun F q => (by rw [h5] at q; cases q), .inl rfl⟩)
  obtain rfl : bw = true := by rw [<- HBW.out]; exact h5
  obtain ⟨hq0, hnon⟩ := WP.out.ch.1 h4
  have h3' := h3
  subst h2
  clear h1 h3 h4 h5 h6 hoff hdat hi0 hd
  have hv1 := ra_one h3'.ra
  obtain ⟨W4, hW4, hst4, HA4⟩ := an_boxed w3 3 0 hv1
  have OV4 := jz (h3'.below HA4.out.2)
  have A4 := jz HA4.out.1
  have B4 := jz HA4.out.2
  obtain ⟨qv, cv, hvv, _⟩ := ra_shape h3'.ra
  obtain ⟨nv, hnv⟩ : ∃ n, List.length ([] : List Int) = n := ⟨_, rfl⟩
  rw [hnv] at hvv
  subst hvv
  have la4 := A4.out.load
  have ce4 := A4.out.c0
  have SA := jz (rsame_is (w := W4) (e := 3) (o := 0) (e' := 3) (o' := 0) (v' := .slice none 0 0) (l' := []) OV4.out.ra (own_nil_by 0 W4).ra)
  rw [show decide ((3 : Int) = 3 /\ (0 : Int) = 0 /\ ([] : List Int) = []) = true by decide] at SA
  have RM4 := jz (RM3.out.below B4.out)
  have HS4 : Hid (w3.heap.size < W4.heap.size /\ w.heap.size < w3.heap.size) := jz ⟨A4.out.lt, by have := HN0.out.1; have := D2.out.size; have := CH3.out.size; omega⟩
  go_wp2_with fail
  refine (SA.out).mono ?_; rintro e w5 ⟨rfl, b5⟩
  have B5 := jz b5
  have RM5 := jz (RM4.out.below b5)
  have CL := jz (rclone_is _ RM5.out)
  clear b5 la4 ce4 SA hv1
  go_wp2_with fail
  refine (CL.out).mono ?_; rintro e w6 ⟨⟨xw, rfl, hxw, hxw2, hRx⟩, b6⟩
  have RX := jz hRx
  have RG := jz (RM5.out.more b6 hxw hxw2)
  have BB := jz (below_more B5.out b6)
  have A6 := jz ((A4.out.below BB.out))
  have PX6 := jz (((PX3.out.below B4.out).below BB.out))
  have HXW : Hid (w3.heap.size < xw /\ xw ≠ g) := jz (by have := B5.out.size; have := HS4.out; have := HN0.out; omega)
  have B36 := jz (below_more B4.out BB.out)
  clear hRx hxw hxw2 b6 CL
  have e6 := A6.out.c0
  have o6 := A6.out.c1
  have d6 := A6.out.c2
  have k6 := PX6.out.c0
  have k6o := PX6.out.c1
  have k6n := PX6.out.c2
  have k6v := PX6.out.c4
  rw [HXv.out] at k6v
  have CHW := jz ((Chg.of_below (below_more B0.out D2.out) (g :: a.D)).trans (CH3.out.mono fun k hk => List.mem_cons_of_mem _ hk))
  have CA := jz (rmfree_is x.o w6 RX.out)
  rw [hQ] at CA
  rw [hq0] at CA
  rw [HK0.out] at k6
  go_wp2_with fail
  refine (CA.out).mono ?_; rintro e w7 ⟨rfl, hR7, c7⟩
  have A7 := jz (A6.out.chg c7 (by have := HXW.out; simp; omega))
  have PX7 := jz (PX6.out.chg c7 (by have := HXW.out; have := HS4.out; simp; omega))
  have B37 := jz (c7.below B36.out B36.out.size (fun k hk => by rw [List.mem_singleton.1 hk]; have := HXW.out; omega))
  have RG7 := jz (RG.out.chg c7 (fun k hk => by rw [List.mem_singleton.1 hk]; exact List.mem_cons_self ..) (by have := HXW.out; simp; omega))
  have R7 := jz hR7
  clear hR7 c7 e6 o6 d6 k6 k6o k6n k6v
  have e7 := A7.out.c0
  have k7 := PX7.out.c0
  have k7v := PX7.out.c4
  rw [HXv.out] at k7v
  rw [HK0.out] at k7
  have F : Hid (SOutH w w7 a S K D g (.returned (.int .i64 0))) := jz (sout_fin H3.out.1 RM3.out HDD.out.2 H3.out.2 CHW.out HIX.out HFR.out (Chg.of_below B37.out [g]) (RM3.out.below B37.out))
  go_wp2_with fail
  go_ret
  exact F.out
 case wears pl v h1 h2 h3 h4 h5 h6 h7 h8 h9 =>
  have hd : x.d = 2 := HK0.out
  have hi0 := HI0.out
  rw [hd] at h1
  have WP := jz (want2 hi0.hc.ok HB.out h1)
  have hoff := WP.out.off
  have hdat := WP.out.data
  obtain ⟨Q, hQ⟩ : ∃ Q, feQ l x.o r = Q := ⟨_, rfl⟩
  rw [hQ] at WP
  have HIX : Hid (HI a S' (K + 1) X r) := jz h6
  have HFR : Hid ((Free S.s -> S.worn = false -> Free S'.s /\ S'.worn = false) /\ (S'.wf = S.wf \/ ¬ Free S.s)) := jz ⟨fun F => absurd F h9, .inr h9⟩
  obtain rfl : bw = false := by rw [<- HBW.out]; exact h5
  obtain ⟨hq0, hnon⟩ := WP.out.ch.1 h4.1
  have C5 := jz (fun w' (hb : Below w3.heap.size w3 w') => hworn_is (H3.out.1.below hb) HIX.out.live HIX.out.hc.lg.r1)
  rw [HZ.out, h8] at C5
  have h3' := h3
  subst h2
  clear h1 h3 h4 h5 h6 h7 h8 h9 hoff hdat hi0 hd
  have hv1 := ra_one h3'.ra
  obtain ⟨W4, hW4, hst4, HA4⟩ := an_boxed w3 3 0 hv1
  have OV4 := jz (h3'.below HA4.out.2)
  have A4 := jz HA4.out.1
  have B4 := jz HA4.out.2
  obtain ⟨qv, cv, hvv, _⟩ := ra_shape h3'.ra
  obtain ⟨nv, hnv⟩ : ∃ n, List.length ([] : List Int) = n := ⟨_, rfl⟩
  rw [hnv] at hvv
  subst hvv
  have la4 := A4.out.load
  have ce4 := A4.out.c0
  have SA := jz (rsame_is (w := W4) (e := 3) (o := 0) (e' := 3) (o' := 0) (v' := .slice none 0 0) (l' := []) OV4.out.ra (own_nil_by 0 W4).ra)
  rw [show decide ((3 : Int) = 3 /\ (0 : Int) = 0 /\ ([] : List Int) = []) = true by decide] at SA
  have RM4 := jz (RM3.out.below B4.out)
  have HS4 : Hid (w3.heap.size < W4.heap.size /\ w.heap.size < w3.heap.size) := jz ⟨A4.out.lt, by have := HN0.out.1; have := D2.out.size; have := CH3.out.size; omega⟩
  go_wp2_with fail
  refine (SA.out).mono ?_; rintro e w5 ⟨rfl, b5⟩
  have B5 := jz b5
  have RM5 := jz (RM4.out.below b5)
  have CL := jz (rclone_is _ RM5.out)
  clear b5 la4 ce4 SA hv1
  go_wp2_with fail
  refine (CL.out).mono ?_; rintro e w6 ⟨⟨xw, rfl, hxw, hxw2, hRx⟩, b6⟩
  have RX := jz hRx
  have RG := jz (RM5.out.more b6 hxw hxw2)
  have BB := jz (below_more B5.out b6)
  have A6 := jz ((A4.out.below BB.out))
  have PX6 := jz (((PX3.out.below B4.out).below BB.out))
  have HXW : Hid (w3.heap.size < xw /\ xw ≠ g) := jz (by have := B5.out.size; have := HS4.out; have := HN0.out; omega)
  have B36 := jz (below_more B4.out BB.out)
  clear hRx hxw hxw2 b6 CL
  have e6 := A6.out.c0
  have o6 := A6.out.c1
  have d6 := A6.out.c2
  have k6 := PX6.out.c0
  have k6o := PX6.out.c1
  have k6n := PX6.out.c2
  have k6v := PX6.out.c4
  rw [HXv.out] at k6v
  have CHW := jz ((Chg.of_below (below_more B0.out D2.out) (g :: a.D)).trans (CH3.out.mono fun k hk => List.mem_cons_of_mem _ hk))
  have CA := jz (rmfree_is x.o w6 RX.out)
  rw [hQ] at CA
  rw [hq0] at CA
  rw [HK0.out] at k6
  go_wp2_with fail
  refine (CA.out).mono ?_; rintro e w7 ⟨rfl, hR7, c7⟩
  have A7 := jz (A6.out.chg c7 (by have := HXW.out; simp; omega))
  have PX7 := jz (PX6.out.chg c7 (by have := HXW.out; have := HS4.out; simp; omega))
  have B37 := jz (c7.below B36.out B36.out.size (fun k hk => by rw [List.mem_singleton.1 hk]; have := HXW.out; omega))
  have RG7 := jz (RG.out.chg c7 (fun k hk => by rw [List.mem_singleton.1 hk]; exact List.mem_cons_self ..) (by have := HXW.out; simp; omega))
  have R7 := jz hR7
  clear hR7 c7 e6 o6 d6 k6 k6o k6n k6v
  have e7 := A7.out.c0
  have k7 := PX7.out.c0
  have k7v := PX7.out.c4
  rw [HXv.out] at k7v
  rw [HK0.out] at k7
  have F : Hid (SOutH w w7 a S K D g (.returned (.int .i64 0))) := jz (sout_fin H3.out.1 RM3.out HDD.out.2 H3.out.2 CHW.out HIX.out HFR.out (Chg.of_below B37.out [g]) (RM3.out.below B37.out))
  go_wp2_with fail
  refine (C5.out _ B37.out).mono ?_; rintro e w8 ⟨rfl, rfl⟩
  go_wp2_with fail
  go_ret
  exact F.out
theorem step_root {w : World} {a : Ha} {S : Hs} {K : Nat} {X : List Int} {r : Nat} {D : List Nat} {g : Nat} {l : List Bk} (x : Px) (hp : Hp w a S) (hi : HI a S K X r) (hK : K < 1000) (hco : S.s.comes = false) (hm : Rm w D g X l (r : Int)) (hD : ∀ k ∈ a.D, k ∈ D) (hg : g ∉ a.D) (hx : PxOk w x) (hxf : x.bl = [] \/ ∀ k, x.v.ownBlock = some k -> k ∉ a.D) (hk : x.d = 5) :
 Calls Tryz.prog 17 #[.pointer (some ⟨a.z, 0, none⟩), .pointer (some ⟨g, 0, none⟩), .agg (pxc x)] w fun e w' => SOutH w w' a S K D g e := by
 obtain ⟨W0, hW0⟩ : ∃ W0, w.alloc (.cells (pxc x) 37) = W0 := ⟨_, rfl⟩
 have B0 := jz (show Below w.heap.size w W0 from by rw [<- hW0]; exact bal (Below.refl _ _))
 have PX := jz (show Pxv W0 w.heap.size x from by rw [<- hW0]; exact Pxv.new w x)
 obtain ⟨qx, cx, hxv, _⟩ := ra_shape hx.v
 have HX := jz hx
 have HXF := jz hxf
 have HI0 := jz hi
 have HP0 := jz hp
 have HM0 := jz hm
 have HKK := jz hK
 have HCO := jz hco
 have HDD := jz (And.intro hD hg)
 have HB := jz (show blkF X = some l from hm.hB)
 have C1 := jz (hWords_is (hp.below B0.out).hb hi.num hi.hc.lg hi.live hi.hc.has)
 have C2 := jz (fun w' (hb : Below W0.heap.size W0 w') => hcnt_is ((hp.below B0.out).below hb) (by have := hi.cn; have := hi.num.N; omega))
 have C3 := jz (fun w' (hb : Below W0.heap.size W0 w') => hworn_is ((hp.below B0.out).below hb) hi.live hi.hc.lg.r1)
 have C4 := jz (fun w' (hb : Below W0.heap.size W0 w') => hdo_is x ((hp.below B0.out).below hb) hi hK ((hx.below B0.out).below hb))
 have LX : Hid (∀ w', Pxv w' w.heap.size x -> (pxLoad (.pointer (some ⟨w.heap.size, 0, none⟩))).run Tryz.prog w' = .ok (.agg (pxc x)) w') := jz fun w' h => run_pxLoad fun j u hj => by rw [Whole.at_ h, Nat.zero_add, <- hj]; simp [pxc]
 have HXv := jz hxv
 obtain ⟨bw, hbw⟩ : ∃ b, S.worn = b := ⟨_, rfl⟩
 rw [hbw] at C3
 have HBW := jz hbw
 clear hp hi hK hco hm hD hg hx hxf hbw hxv
 obtain ⟨z, hz⟩ : ∃ z, a.z = z := ⟨_, rfl⟩
 have HZ := jz hz
 rw [hz] at C1 C2 C3 C4 ⊢
 clear hz
 obtain ⟨xc, hxc⟩ : ∃ xc, pxc x = xc := ⟨_, rfl⟩
 have HXC := jz hxc
 rw [hxc] at C4 LX hW0 ⊢
 clear hxc
 have HK0 := jz hk
 clear hk
 go_enter Tryz.func17, Tryz.ntmps17
 go_wp2_with fail
 refine (C1.out).mono ?_; rintro e w1 ⟨⟨v1, rfl, o1⟩, b1⟩
 have D1 := jz b1
 have O1 := jz o1
 obtain ⟨q1, c1, rfl⟩ := o1.shape
 clear o1 b1
 go_wp2_with fail
 refine (C2.out _ D1.out).mono ?_; rintro e w2 ⟨⟨v2, rfl, o2⟩, b2⟩
 have D2 := jz (below_more D1.out b2)
 have O1b := jz (O1.out.below b2)
 have O2 := jz o2
 obtain ⟨q2, c2, rfl, _⟩ := o2.ri
 clear o2 b2
 go_wp2_with fail
 refine (C3.out _ D2.out).mono ?_; rintro e w3 ⟨rfl, rfl⟩
 have lx2 := LX.out _ (PX.out.below D2.out)
 go_wp2_with fail
 refine (C4.out _ D2.out).mono ?_; rintro e w3 ho
 obtain ⟨S', hp3, hc3, la3, co3, n3, hcalm⟩ := do_calm HI0.out HKK.out HCO.out ho
 have H3 := jz (And.intro hp3 (And.intro la3 (And.intro co3 n3)))
 have CH3 := jz hc3
 have HN0 : Hid (w.heap.size < W0.heap.size /\ (∀ k ∈ a.D, k < w.heap.size) /\ g < w.heap.size) := jz ⟨PX.out.lt, fun k hk => HM0.out.dlt k (HDD.out.1 k hk), HM0.out.dlt g HM0.out.gD⟩
 have PX3 := jz ((PX.out.below D2.out).chg hc3 (fun q => by have := HN0.out.2.1 _ q; omega))
 have OW3 := jz (own_chg_u O1b.out hc3 (fun k hk => by have := HN0.out.2.1 _ hk; have := HN0.out.1; omega))
 have OI3 := jz (own_chg_h O2.out hc3 (fun k hk => by have := HN0.out.2.1 _ hk; have := HN0.out.1; have := D1.out.size; omega))
 have XV3 : Hid (RA byE w3 (.slice qx x.bl.length cx) x.bl) := jz (by rw [<- HXv.out]; exact ra_chg_or (ra_below (ra_below HX.out.v B0.out) D2.out) hc3 HXF.out)
 have RM3 := jz (((HM0.out.below B0.out).below D2.out).chg hc3 HDD.out.1 HDD.out.2)
 clear hp3 hc3 la3 co3 n3 ho C1 C2 C3 C4 lx2
 cases hcalm
 case goes pl v h1 h2 h3 h4 h5 h6 h7 h8 h9 =>
  have hd : x.d = 5 := HK0.out
  have hi0 := HI0.out
  rw [hd] at h1
  have WP := jz (want5 HB.out h1)
  have hoff := WP.out.off
  have hdat := WP.out.data
  obtain ⟨Q, hQ⟩ : ∃ Q, srQ l x.o = Q := ⟨_, rfl⟩
  rw [hQ] at WP
  have PR : Hid (Q ≠ 0 -> pl.X = X /\ pl.r = r) := jz fun q => by
   have p := plan_rest h1 (fun _ => by rw [WP.out.e]; exact q)
   exact ⟨p.1, p.2.1⟩
  have HIX : Hid (HI a S' (K + 1) pl.X pl.r) := jz h5
  have HFR : Hid ((Free S.s -> S.worn = false -> Free S'.s /\ S'.worn = false) /\ (S'.wf = S.wf \/ ¬ Free S.s)) := jz ⟨fun F q => by
   have hw2 := worn_no q
   obtain ⟨f1, f2⟩ := h7 F hw2.2
   exact ⟨f1, by unfold Hs.worn; rw [h8, hw2.1, f2]; rfl⟩, .inl h8⟩
  have HCH : Hid (pl.ch = true -> bw = false) := jz fun q => by rw [<- HBW.out]; exact h4 q
  rw [hoff, WP.out.e] at h2
  rw [hdat] at h3
  subst h2
  have h3' := h3
  clear h1 h3 h4 h5 h6 h7 h8 h9 hoff hdat hi0 hd
  have hv1 := ra_one h3'.ra
  obtain ⟨W4, hW4, hst4, HA4⟩ := an_boxed w3 Q 0 hv1
  have OV4 := jz (h3'.below HA4.out.2)
  have A4 := jz HA4.out.1
  have B4 := jz HA4.out.2
  obtain ⟨qv, cv, hvv, _⟩ := ra_shape h3'.ra
  obtain ⟨nv, hnv⟩ : ∃ n, List.length ([] : List Int) = n := ⟨_, rfl⟩
  rw [hnv] at hvv
  subst hvv
  have la4 := A4.out.load
  have ce4 := A4.out.c0
  have SA := jz (rsame_is (w := W4) (e := Q) (o := 0) (e' := Q) (o' := 0) (v' := .slice none 0 0) (l' := []) OV4.out.ra (own_nil_by 0 W4).ra)
  rw [show decide ((Q : Int) = Q /\ (0 : Int) = 0 /\ ([] : List Int) = []) = true by simp] at SA
  have RM4 := jz (RM3.out.below B4.out)
  have HS4 : Hid (w3.heap.size < W4.heap.size /\ w.heap.size < w3.heap.size) := jz ⟨A4.out.lt, by have := HN0.out.1; have := D2.out.size; have := CH3.out.size; omega⟩
  go_wp2_with fail
  refine (SA.out).mono ?_; rintro e w5 ⟨rfl, b5⟩
  have B5 := jz b5
  have RM5 := jz (RM4.out.below b5)
  have CL := jz (rclone_is _ RM5.out)
  clear b5 la4 ce4 SA hv1
  go_wp2_with fail
  refine (CL.out).mono ?_; rintro e w6 ⟨⟨xw, rfl, hxw, hxw2, hRx⟩, b6⟩
  have RX := jz hRx
  have RG := jz (RM5.out.more b6 hxw hxw2)
  have BB := jz (below_more B5.out b6)
  have A6 := jz ((A4.out.below BB.out))
  have PX6 := jz (((PX3.out.below B4.out).below BB.out))
  have HXW : Hid (w3.heap.size < xw /\ xw ≠ g) := jz (by have := B5.out.size; have := HS4.out; have := HN0.out; omega)
  have B36 := jz (below_more B4.out BB.out)
  clear hRx hxw hxw2 b6 CL
  have e6 := A6.out.c0
  have o6 := A6.out.c1
  have d6 := A6.out.c2
  have k6 := PX6.out.c0
  have k6o := PX6.out.c1
  have k6n := PX6.out.c2
  have k6v := PX6.out.c4
  rw [HXv.out] at k6v
  have CHW := jz ((Chg.of_below (below_more B0.out D2.out) (g :: a.D)).trans (CH3.out.mono fun k hk => List.mem_cons_of_mem _ hk))
  have CA := jz (rmsetr_is x.o w6 RX.out)
  rw [hQ] at CA
  rw [HK0.out] at k6
  go_wp2_with fail
  refine (CA.out).mono ?_; rintro e w7 ⟨rfl, hR7, c7⟩
  have A7 := jz (A6.out.chg c7 (by have := HXW.out; simp; omega))
  have PX7 := jz (PX6.out.chg c7 (by have := HXW.out; have := HS4.out; simp; omega))
  have B37 := jz (c7.below B36.out B36.out.size (fun k hk => by rw [List.mem_singleton.1 hk]; have := HXW.out; omega))
  have RG7 := jz (RG.out.chg c7 (fun k hk => by rw [List.mem_singleton.1 hk]; exact List.mem_cons_self ..) (by have := HXW.out; simp; omega))
  have R7 := jz hR7
  clear hR7 c7 e6 o6 d6 k6 k6o k6n k6v
  have e7 := A7.out.c0
  have k7 := PX7.out.c0
  have k7v := PX7.out.c4
  rw [HXv.out] at k7v
  rw [HK0.out] at k7
  by_cases h0 : Q = 0
  . subst h0
    rw [if_pos rfl] at R7 WP
    have FE := jz (fun wf (c : Chg [g] w3 wf) (m : Rm wf D g pl.X l ((pl.r : Nat) : Int)) => sout_fin H3.out.1 RM3.out HDD.out.2 H3.out.2 CHW.out HIX.out HFR.out c m)
    have bd : Below w7.heap.size w7 w7.drew := (Below.refl _ _).drew
    obtain ⟨qt, nt, ct, t1, t2, t3, t4, t5, t6⟩ := Rm.take2 (RG7.out.below bd) (R7.out.below bd) (fun k hk => hk)
    obtain ⟨mv, mW, _⟩ := (RG7.out.below bd).rows
    have hxg : xw ≠ g := HXW.out.2
    have hgx : g ≠ xw := fun q => hxg q.symm
    have m0 : w7.drew.cell? ⟨g, 0, none⟩ = some mv := by rw [Whole.at_ mW]; rfl
    have m1 : w7.drew.cell? ⟨g, 1, none⟩ = some (.int .i64 r) := by rw [Whole.at_ mW]; rfl
    have f0 := Whole.free mW 0
    have f1 := Whole.free mW 1
    have m0' : w7.cell? ⟨g, 0, none⟩ = some mv := m0
    have m1' : w7.cell? ⟨g, 1, none⟩ = some (.int .i64 r) := m1
    have f0' : w7.frozen? ⟨g, 0, none⟩ = false := f0
    have f1' : w7.frozen? ⟨g, 1, none⟩ = false := f1
    have t1' : w7.cell? ⟨xw, 0, none⟩ = some (.slice qt nt ct) := t1
    have t2' : w7.cell? ⟨xw, 1, none⟩ = some (.int .i64 x.o) := t2
    have FA : Hid (SOutH w ((w7.drew.setCell ⟨g, 0, none⟩ (.slice qt nt ct)).setCell ⟨g, 1, none⟩ (.int .i64 x.o)) a S K D g (.returned (.int .i64 0)) /\ SOutH w ((w7.drew.setCell ⟨g, 1, none⟩ (.int .i64 x.o)).setCell ⟨g, 0, none⟩ (.slice qt nt ct)) a S K D g (.returned (.int .i64 0))) := jz (by
     have q : Chg [g] w3 w7.drew := Chg.of_below (B37.out.drew) [g]
     have hX := WP.out.X
     have hr := WP.out.r
     refine ⟨FE.out _ (q.trans t5) ?_, FE.out _ (q.trans t6) ?_⟩
     . rw [hX, hr]; exact t3.less_h (fun k hk => List.mem_cons_of_mem _ hk) HM0.out.gD
     . rw [hX, hr]; exact t4.less_h (fun k hk => List.mem_cons_of_mem _ hk) HM0.out.gD)
    clear t3 t4 t5 t6 mW bd A7 PX7 FE
    have hb0 : bw = false := HCH.out (WP.out.ch.2 ⟨rfl, rfl⟩)
    subst hb0
    clear hQ
    go_wp2
    go_region_law (fail)
    all_goals
     go_wp2
     go_ret
     first | exact FA.out.1 | exact FA.out.2
  . have j0 : (Q == 0) = false := beq_eq_false_iff_ne.2 h0
    have j3 : (Q == 3) = false := beq_eq_false_iff_ne.2 WP.out.n3
    have F : Hid (SOutH w w7 a S K D g (.returned (.int .i64 0))) := jz (sout_fin H3.out.1 RM3.out HDD.out.2 H3.out.2 CHW.out HIX.out HFR.out (Chg.of_below B37.out [g]) (by rw [(PR.out h0).1, (PR.out h0).2]; exact RM3.out.below B37.out))
    clear h0 hQ
    cases bw
    . go_wp2_with fail
      go_ret
      exact F.out
    . go_wp2_with fail
      go_ret
      exact F.out
 case worn pl v h1 h2 h3 h4 h5 h6 =>
  have hd : x.d = 5 := HK0.out
  have hi0 := HI0.out
  rw [hd] at h1
  have WP := jz (want5 HB.out h1)
  have hoff := WP.out.off
  have hdat := WP.out.data
  obtain ⟨Q, hQ⟩ : ∃ Q, srQ l x.o = Q := ⟨_, rfl⟩
  rw [hQ] at WP
  have HIX : Hid (HI a S' (K + 1) X r) := jz (by have := HKK.out; rw [h6]; exact hi0.more (by omega) (by omega))
  have HFR : Hid ((Free S.s -> S.worn = false -> Free S'.s /\ S'.worn = false) /\ (S'.wf = S.wf \/ ¬ Free S.s)) := jz (by rw [h6]; exact ⟨fun F q => (by rw [h5] at q; cases q), .inl rfl⟩)
  obtain rfl : bw = true := by rw [<- HBW.out]; exact h5
  obtain ⟨hq0, hnon⟩ := WP.out.ch.1 h4
  have h3' := h3
  subst h2
  clear h1 h3 h4 h5 h6 hoff hdat hi0 hd
  have hv1 := ra_one h3'.ra
  obtain ⟨W4, hW4, hst4, HA4⟩ := an_boxed w3 3 0 hv1
  have OV4 := jz (h3'.below HA4.out.2)
  have A4 := jz HA4.out.1
  have B4 := jz HA4.out.2
  obtain ⟨qv, cv, hvv, _⟩ := ra_shape h3'.ra
  obtain ⟨nv, hnv⟩ : ∃ n, List.length ([] : List Int) = n := ⟨_, rfl⟩
  rw [hnv] at hvv
  subst hvv
  have la4 := A4.out.load
  have ce4 := A4.out.c0
  have SA := jz (rsame_is (w := W4) (e := 3) (o := 0) (e' := 3) (o' := 0) (v' := .slice none 0 0) (l' := []) OV4.out.ra (own_nil_by 0 W4).ra)
  rw [show decide ((3 : Int) = 3 /\ (0 : Int) = 0 /\ ([] : List Int) = []) = true by decide] at SA
  have RM4 := jz (RM3.out.below B4.out)
  have HS4 : Hid (w3.heap.size < W4.heap.size /\ w.heap.size < w3.heap.size) := jz ⟨A4.out.lt, by have := HN0.out.1; have := D2.out.size; have := CH3.out.size; omega⟩
  go_wp2_with fail
  refine (SA.out).mono ?_; rintro e w5 ⟨rfl, b5⟩
  have B5 := jz b5
  have RM5 := jz (RM4.out.below b5)
  have CL := jz (rclone_is _ RM5.out)
  clear b5 la4 ce4 SA hv1
  go_wp2_with fail
  refine (CL.out).mono ?_; rintro e w6 ⟨⟨xw, rfl, hxw, hxw2, hRx⟩, b6⟩
  have RX := jz hRx
  have RG := jz (RM5.out.more b6 hxw hxw2)
  have BB := jz (below_more B5.out b6)
  have A6 := jz ((A4.out.below BB.out))
  have PX6 := jz (((PX3.out.below B4.out).below BB.out))
  have HXW : Hid (w3.heap.size < xw /\ xw ≠ g) := jz (by have := B5.out.size; have := HS4.out; have := HN0.out; omega)
  have B36 := jz (below_more B4.out BB.out)
  clear hRx hxw hxw2 b6 CL
  have e6 := A6.out.c0
  have o6 := A6.out.c1
  have d6 := A6.out.c2
  have k6 := PX6.out.c0
  have k6o := PX6.out.c1
  have k6n := PX6.out.c2
  have k6v := PX6.out.c4
  rw [HXv.out] at k6v
  have CHW := jz ((Chg.of_below (below_more B0.out D2.out) (g :: a.D)).trans (CH3.out.mono fun k hk => List.mem_cons_of_mem _ hk))
  have CA := jz (rmsetr_is x.o w6 RX.out)
  rw [hQ] at CA
  rw [hq0] at CA
  rw [HK0.out] at k6
  go_wp2_with fail
  refine (CA.out).mono ?_; rintro e w7 ⟨rfl, hR7, c7⟩
  have A7 := jz (A6.out.chg c7 (by have := HXW.out; simp; omega))
  have PX7 := jz (PX6.out.chg c7 (by have := HXW.out; have := HS4.out; simp; omega))
  have B37 := jz (c7.below B36.out B36.out.size (fun k hk => by rw [List.mem_singleton.1 hk]; have := HXW.out; omega))
  have RG7 := jz (RG.out.chg c7 (fun k hk => by rw [List.mem_singleton.1 hk]; exact List.mem_cons_self ..) (by have := HXW.out; simp; omega))
  have R7 := jz hR7
  clear hR7 c7 e6 o6 d6 k6 k6o k6n k6v
  have e7 := A7.out.c0
  have k7 := PX7.out.c0
  have k7v := PX7.out.c4
  rw [HXv.out] at k7v
  rw [HK0.out] at k7
  have F : Hid (SOutH w w7 a S K D g (.returned (.int .i64 0))) := jz (sout_fin H3.out.1 RM3.out HDD.out.2 H3.out.2 CHW.out HIX.out HFR.out (Chg.of_below B37.out [g]) (RM3.out.below B37.out))
  go_wp2_with fail
  go_ret
  exact F.out
 case wears pl v h1 h2 h3 h4 h5 h6 h7 h8 h9 =>
  exact absurd HK0.out h4.2.2
theorem step_write {w : World} {a : Ha} {S : Hs} {K : Nat} {X : List Int} {r : Nat} {D : List Nat} {g : Nat} {l : List Bk} (x : Px) (hp : Hp w a S) (hi : HI a S K X r) (hK : K < 1000) (hco : S.s.comes = false) (hm : Rm w D g X l (r : Int)) (hD : ∀ k ∈ a.D, k ∈ D) (hg : g ∉ a.D) (hx : PxOk w x) (hxf : x.bl = [] \/ ∀ k, x.v.ownBlock = some k -> k ∉ a.D) (hk : x.d = 4) :
 Calls Tryz.prog 17 #[.pointer (some ⟨a.z, 0, none⟩), .pointer (some ⟨g, 0, none⟩), .agg (pxc x)] w fun e w' => SOutH w w' a S K D g e := by
 obtain ⟨W0, hW0⟩ : ∃ W0, w.alloc (.cells (pxc x) 37) = W0 := ⟨_, rfl⟩
 have B0 := jz (show Below w.heap.size w W0 from by rw [<- hW0]; exact bal (Below.refl _ _))
 have PX := jz (show Pxv W0 w.heap.size x from by rw [<- hW0]; exact Pxv.new w x)
 obtain ⟨qx, cx, hxv, _⟩ := ra_shape hx.v
 have HX := jz hx
 have HXF := jz hxf
 have HI0 := jz hi
 have HP0 := jz hp
 have HM0 := jz hm
 have HKK := jz hK
 have HCO := jz hco
 have HDD := jz (And.intro hD hg)
 have HB := jz (show blkF X = some l from hm.hB)
 have C1 := jz (hWords_is (hp.below B0.out).hb hi.num hi.hc.lg hi.live hi.hc.has)
 have C2 := jz (fun w' (hb : Below W0.heap.size W0 w') => hcnt_is ((hp.below B0.out).below hb) (by have := hi.cn; have := hi.num.N; omega))
 have C3 := jz (fun w' (hb : Below W0.heap.size W0 w') => hworn_is ((hp.below B0.out).below hb) hi.live hi.hc.lg.r1)
 have C4 := jz (fun w' (hb : Below W0.heap.size W0 w') => hdo_is x ((hp.below B0.out).below hb) hi hK ((hx.below B0.out).below hb))
 have LX : Hid (∀ w', Pxv w' w.heap.size x -> (pxLoad (.pointer (some ⟨w.heap.size, 0, none⟩))).run Tryz.prog w' = .ok (.agg (pxc x)) w') := jz fun w' h => run_pxLoad fun j u hj => by rw [Whole.at_ h, Nat.zero_add, <- hj]; simp [pxc]
 have HXv := jz hxv
 obtain ⟨bw, hbw⟩ : ∃ b, S.worn = b := ⟨_, rfl⟩
 rw [hbw] at C3
 have HBW := jz hbw
 clear hp hi hK hco hm hD hg hx hxf hbw hxv
 obtain ⟨z, hz⟩ : ∃ z, a.z = z := ⟨_, rfl⟩
 have HZ := jz hz
 rw [hz] at C1 C2 C3 C4 ⊢
 clear hz
 obtain ⟨xc, hxc⟩ : ∃ xc, pxc x = xc := ⟨_, rfl⟩
 have HXC := jz hxc
 rw [hxc] at C4 LX hW0 ⊢
 clear hxc
 have HK0 := jz hk
 clear hk
 go_enter Tryz.func17, Tryz.ntmps17
 go_wp2_with fail
 refine (C1.out).mono ?_; rintro e w1 ⟨⟨v1, rfl, o1⟩, b1⟩
 have D1 := jz b1
 have O1 := jz o1
 obtain ⟨q1, c1, rfl⟩ := o1.shape
 clear o1 b1
 go_wp2_with fail
 refine (C2.out _ D1.out).mono ?_; rintro e w2 ⟨⟨v2, rfl, o2⟩, b2⟩
 have D2 := jz (below_more D1.out b2)
 have O1b := jz (O1.out.below b2)
 have O2 := jz o2
 obtain ⟨q2, c2, rfl, _⟩ := o2.ri
 clear o2 b2
 go_wp2_with fail
 refine (C3.out _ D2.out).mono ?_; rintro e w3 ⟨rfl, rfl⟩
 have lx2 := LX.out _ (PX.out.below D2.out)
 go_wp2_with fail
 refine (C4.out _ D2.out).mono ?_; rintro e w3 ho
 obtain ⟨S', hp3, hc3, la3, co3, n3, hcalm⟩ := do_calm HI0.out HKK.out HCO.out ho
 have H3 := jz (And.intro hp3 (And.intro la3 (And.intro co3 n3)))
 have CH3 := jz hc3
 have HN0 : Hid (w.heap.size < W0.heap.size /\ (∀ k ∈ a.D, k < w.heap.size) /\ g < w.heap.size) := jz ⟨PX.out.lt, fun k hk => HM0.out.dlt k (HDD.out.1 k hk), HM0.out.dlt g HM0.out.gD⟩
 have PX3 := jz ((PX.out.below D2.out).chg hc3 (fun q => by have := HN0.out.2.1 _ q; omega))
 have OW3 := jz (own_chg_u O1b.out hc3 (fun k hk => by have := HN0.out.2.1 _ hk; have := HN0.out.1; omega))
 have OI3 := jz (own_chg_h O2.out hc3 (fun k hk => by have := HN0.out.2.1 _ hk; have := HN0.out.1; have := D1.out.size; omega))
 have XV3 : Hid (RA byE w3 (.slice qx x.bl.length cx) x.bl) := jz (by rw [<- HXv.out]; exact ra_chg_or (ra_below (ra_below HX.out.v B0.out) D2.out) hc3 HXF.out)
 have RM3 := jz (((HM0.out.below B0.out).below D2.out).chg hc3 HDD.out.1 HDD.out.2)
 clear hp3 hc3 la3 co3 n3 ho C1 C2 C3 C4 lx2
 cases hcalm
 case goes pl v h1 h2 h3 h4 h5 h6 h7 h8 h9 =>
  have hd : x.d = 4 := HK0.out
  have hi0 := HI0.out
  rw [hd] at h1
  have W4 := want4 hi0.len.1 hi0.hc.snd hi0.hc.ok HB.out h1
  have WP := jz W4.1
  have WQ := jz W4.2
  clear W4
  have hoff := WP.out.off
  have hdat := WP.out.data
  obtain ⟨Q, hQ⟩ : ∃ Q, refF X x.o x.bl.length = Q := ⟨_, rfl⟩
  rw [hQ] at WP
  have PR : Hid (Q ≠ 0 -> pl.X = X /\ pl.r = r) := jz fun q => by
   have p := plan_rest h1 (fun _ => by rw [WP.out.e]; exact q)
   exact ⟨p.1, p.2.1⟩
  have HIX : Hid (HI a S' (K + 1) pl.X pl.r) := jz h5
  have HFR : Hid ((Free S.s -> S.worn = false -> Free S'.s /\ S'.worn = false) /\ (S'.wf = S.wf \/ ¬ Free S.s)) := jz ⟨fun F q => by
   have hw2 := worn_no q
   obtain ⟨f1, f2⟩ := h7 F hw2.2
   exact ⟨f1, by unfold Hs.worn; rw [h8, hw2.1, f2]; rfl⟩, .inl h8⟩
  have HCH : Hid (pl.ch = true -> bw = false) := jz fun q => by rw [<- HBW.out]; exact h4 q
  rw [hoff, WP.out.e] at h2
  rw [hdat] at h3
  subst h2
  have h3' := h3
  clear h1 h3 h4 h5 h6 h7 h8 h9 hoff hdat hi0 hd
  have hv1 := ra_one h3'.ra
  obtain ⟨W4, hW4, hst4, HA4⟩ := an_boxed w3 Q 0 hv1
  have OV4 := jz (h3'.below HA4.out.2)
  have A4 := jz HA4.out.1
  have B4 := jz HA4.out.2
  obtain ⟨qv, cv, hvv, _⟩ := ra_shape h3'.ra
  obtain ⟨nv, hnv⟩ : ∃ n, List.length ([] : List Int) = n := ⟨_, rfl⟩
  rw [hnv] at hvv
  subst hvv
  have la4 := A4.out.load
  have ce4 := A4.out.c0
  have SA := jz (rsame_is (w := W4) (e := Q) (o := 0) (e' := Q) (o' := 0) (v' := .slice none 0 0) (l' := []) OV4.out.ra (own_nil_by 0 W4).ra)
  rw [show decide ((Q : Int) = Q /\ (0 : Int) = 0 /\ ([] : List Int) = []) = true by simp] at SA
  have RM4 := jz (RM3.out.below B4.out)
  have HS4 : Hid (w3.heap.size < W4.heap.size /\ w.heap.size < w3.heap.size) := jz ⟨A4.out.lt, by have := HN0.out.1; have := D2.out.size; have := CH3.out.size; omega⟩
  go_wp2_with fail
  refine (SA.out).mono ?_; rintro e w5 ⟨rfl, b5⟩
  have B5 := jz b5
  have RM5 := jz (RM4.out.below b5)
  have CL := jz (rclone_is _ RM5.out)
  clear b5 la4 ce4 SA hv1
  go_wp2_with fail
  refine (CL.out).mono ?_; rintro e w6 ⟨⟨xw, rfl, hxw, hxw2, hRx⟩, b6⟩
  have RX := jz hRx
  have RG := jz (RM5.out.more b6 hxw hxw2)
  have BB := jz (below_more B5.out b6)
  have A6 := jz ((A4.out.below BB.out))
  have PX6 := jz (((PX3.out.below B4.out).below BB.out))
  have HXW : Hid (w3.heap.size < xw /\ xw ≠ g) := jz (by have := B5.out.size; have := HS4.out; have := HN0.out; omega)
  have B36 := jz (below_more B4.out BB.out)
  clear hRx hxw hxw2 b6 CL
  have e6 := A6.out.c0
  have o6 := A6.out.c1
  have d6 := A6.out.c2
  have k6 := PX6.out.c0
  have k6o := PX6.out.c1
  have k6n := PX6.out.c2
  have k6v := PX6.out.c4
  rw [HXv.out] at k6v
  have CHW := jz ((Chg.of_below (below_more B0.out D2.out) (g :: a.D)).trans (CH3.out.mono fun k hk => List.mem_cons_of_mem _ hk))
  have XV6 := jz (ra_below XV3.out B36.out)
  have CA := jz (rmwrite_is x.o x.bl (.slice qx x.bl.length cx) w6 RX.out XV6.out HX.out.len HX.out.o pl.X WQ.out.1 WQ.out.2.1 WQ.out.2.2)
  rw [hQ] at CA
  rw [HK0.out] at k6
  go_wp2_with fail
  refine (CA.out).mono ?_; rintro e w7 ⟨rfl, hR7, c7⟩
  have A7 := jz (A6.out.chg c7 (by have := HXW.out; simp; omega))
  have PX7 := jz (PX6.out.chg c7 (by have := HXW.out; have := HS4.out; simp; omega))
  have B37 := jz (c7.below B36.out B36.out.size (fun k hk => by rw [List.mem_singleton.1 hk]; have := HXW.out; omega))
  have RG7 := jz (RG.out.chg c7 (fun k hk => by rw [List.mem_singleton.1 hk]; exact List.mem_cons_self ..) (by have := HXW.out; simp; omega))
  have R7 := jz hR7
  clear hR7 c7 e6 o6 d6 k6 k6o k6n k6v
  have e7 := A7.out.c0
  have k7 := PX7.out.c0
  have k7v := PX7.out.c4
  rw [HXv.out] at k7v
  rw [HK0.out] at k7
  by_cases h0 : Q = 0
  . subst h0
    have FE := jz (fun wf (c : Chg [g] w3 wf) (m : Rm wf D g pl.X l ((pl.r : Nat) : Int)) => sout_fin H3.out.1 RM3.out HDD.out.2 H3.out.2 CHW.out HIX.out HFR.out c m)
    have bd : Below w7.heap.size w7 w7.drew := (Below.refl _ _).drew
    obtain ⟨qt, nt, ct, t1, t2, t3, t4, t5, t6⟩ := Rm.take2 (RG7.out.below bd) (R7.out.below bd) (fun k hk => hk)
    obtain ⟨mv, mW, _⟩ := (RG7.out.below bd).rows
    have hxg : xw ≠ g := HXW.out.2
    have hgx : g ≠ xw := fun q => hxg q.symm
    have m0 : w7.drew.cell? ⟨g, 0, none⟩ = some mv := by rw [Whole.at_ mW]; rfl
    have m1 : w7.drew.cell? ⟨g, 1, none⟩ = some (.int .i64 r) := by rw [Whole.at_ mW]; rfl
    have f0 := Whole.free mW 0
    have f1 := Whole.free mW 1
    have m0' : w7.cell? ⟨g, 0, none⟩ = some mv := m0
    have m1' : w7.cell? ⟨g, 1, none⟩ = some (.int .i64 r) := m1
    have f0' : w7.frozen? ⟨g, 0, none⟩ = false := f0
    have f1' : w7.frozen? ⟨g, 1, none⟩ = false := f1
    have t1' : w7.cell? ⟨xw, 0, none⟩ = some (.slice qt nt ct) := t1
    have t2' : w7.cell? ⟨xw, 1, none⟩ = some (.int .i64 r) := t2
    have FA : Hid (SOutH w ((w7.drew.setCell ⟨g, 0, none⟩ (.slice qt nt ct)).setCell ⟨g, 1, none⟩ (.int .i64 r)) a S K D g (.returned (.int .i64 0)) /\ SOutH w ((w7.drew.setCell ⟨g, 1, none⟩ (.int .i64 r)).setCell ⟨g, 0, none⟩ (.slice qt nt ct)) a S K D g (.returned (.int .i64 0))) := jz (by
     have q : Chg [g] w3 w7.drew := Chg.of_below (B37.out.drew) [g]
     have hX := WP.out.X
     have hr := WP.out.r
     refine ⟨FE.out _ (q.trans t5) ?_, FE.out _ (q.trans t6) ?_⟩
     . rw [hX, hr]; exact t3.less_h (fun k hk => List.mem_cons_of_mem _ hk) HM0.out.gD
     . rw [hX, hr]; exact t4.less_h (fun k hk => List.mem_cons_of_mem _ hk) HM0.out.gD)
    clear t3 t4 t5 t6 mW bd A7 PX7 FE
    clear hQ
    by_cases hl0 : x.bl.length = 0
    . rw [hl0] at k7v
      cases bw
      . go_wp2
        go_region_law (fail)
        all_goals
         go_wp2
         go_ret
         first | exact FA.out.1 | exact FA.out.2
      . go_wp2
        go_region_law (fail)
        all_goals
         go_wp2
         go_ret
         first | exact FA.out.1 | exact FA.out.2
    . have hb0 : bw = false := HCH.out (WP.out.ch.2 ⟨rfl, decide_eq_false hl0⟩)
      subst hb0
      have jl : (((x.bl.length : Nat) : Int) == 0) = false := beq_eq_false_iff_ne.2 (by omega)
      go_wp2
      go_region_law (fail)
      all_goals
       go_wp2
       go_ret
       first | exact FA.out.1 | exact FA.out.2
  . have j0 : (Q == 0) = false := beq_eq_false_iff_ne.2 h0
    have j3 : (Q == 3) = false := beq_eq_false_iff_ne.2 WP.out.n3
    have F : Hid (SOutH w w7 a S K D g (.returned (.int .i64 0))) := jz (sout_fin H3.out.1 RM3.out HDD.out.2 H3.out.2 CHW.out HIX.out HFR.out (Chg.of_below B37.out [g]) (by rw [(PR.out h0).1, (PR.out h0).2]; exact RM3.out.below B37.out))
    clear h0 hQ
    cases bw
    . go_wp2_with fail
      go_ret
      exact F.out
    . go_wp2_with fail
      go_ret
      exact F.out
 case worn pl v h1 h2 h3 h4 h5 h6 =>
  have hd : x.d = 4 := HK0.out
  have hi0 := HI0.out
  rw [hd] at h1
  have W4 := want4 hi0.len.1 hi0.hc.snd hi0.hc.ok HB.out h1
  have WP := jz W4.1
  have WQ := jz W4.2
  clear W4
  have hoff := WP.out.off
  have hdat := WP.out.data
  obtain ⟨Q, hQ⟩ : ∃ Q, refF X x.o x.bl.length = Q := ⟨_, rfl⟩
  rw [hQ] at WP
  have HIX : Hid (HI a S' (K + 1) X r) := jz (by have := HKK.out; rw [h6]; exact hi0.more (by omega) (by omega))
  have HFR : Hid ((Free S.s -> S.worn = false -> Free S'.s /\ S'.worn = false) /\ (S'.wf = S.wf \/ ¬ Free S.s)) := jz (by rw [h6]; exact ⟨fun F q => (by rw [h5] at q; cases q), .inl rfl⟩)
  obtain rfl : bw = true := by rw [<- HBW.out]; exact h5
  obtain ⟨hq0, hnon⟩ := WP.out.ch.1 h4
  have h3' := h3
  subst h2
  clear h1 h3 h4 h5 h6 hoff hdat hi0 hd
  have hv1 := ra_one h3'.ra
  obtain ⟨W4, hW4, hst4, HA4⟩ := an_boxed w3 3 0 hv1
  have OV4 := jz (h3'.below HA4.out.2)
  have A4 := jz HA4.out.1
  have B4 := jz HA4.out.2
  obtain ⟨qv, cv, hvv, _⟩ := ra_shape h3'.ra
  obtain ⟨nv, hnv⟩ : ∃ n, List.length ([] : List Int) = n := ⟨_, rfl⟩
  rw [hnv] at hvv
  subst hvv
  have la4 := A4.out.load
  have ce4 := A4.out.c0
  have SA := jz (rsame_is (w := W4) (e := 3) (o := 0) (e' := 3) (o' := 0) (v' := .slice none 0 0) (l' := []) OV4.out.ra (own_nil_by 0 W4).ra)
  rw [show decide ((3 : Int) = 3 /\ (0 : Int) = 0 /\ ([] : List Int) = []) = true by decide] at SA
  have RM4 := jz (RM3.out.below B4.out)
  have HS4 : Hid (w3.heap.size < W4.heap.size /\ w.heap.size < w3.heap.size) := jz ⟨A4.out.lt, by have := HN0.out.1; have := D2.out.size; have := CH3.out.size; omega⟩
  go_wp2_with fail
  refine (SA.out).mono ?_; rintro e w5 ⟨rfl, b5⟩
  have B5 := jz b5
  have RM5 := jz (RM4.out.below b5)
  have CL := jz (rclone_is _ RM5.out)
  clear b5 la4 ce4 SA hv1
  go_wp2_with fail
  refine (CL.out).mono ?_; rintro e w6 ⟨⟨xw, rfl, hxw, hxw2, hRx⟩, b6⟩
  have RX := jz hRx
  have RG := jz (RM5.out.more b6 hxw hxw2)
  have BB := jz (below_more B5.out b6)
  have A6 := jz ((A4.out.below BB.out))
  have PX6 := jz (((PX3.out.below B4.out).below BB.out))
  have HXW : Hid (w3.heap.size < xw /\ xw ≠ g) := jz (by have := B5.out.size; have := HS4.out; have := HN0.out; omega)
  have B36 := jz (below_more B4.out BB.out)
  clear hRx hxw hxw2 b6 CL
  have e6 := A6.out.c0
  have o6 := A6.out.c1
  have d6 := A6.out.c2
  have k6 := PX6.out.c0
  have k6o := PX6.out.c1
  have k6n := PX6.out.c2
  have k6v := PX6.out.c4
  rw [HXv.out] at k6v
  have CHW := jz ((Chg.of_below (below_more B0.out D2.out) (g :: a.D)).trans (CH3.out.mono fun k hk => List.mem_cons_of_mem _ hk))
  have XV6 := jz (ra_below XV3.out B36.out)
  have CA := jz (rmwrite_is x.o x.bl (.slice qx x.bl.length cx) w6 RX.out XV6.out HX.out.len HX.out.o pl.X WQ.out.1 WQ.out.2.1 WQ.out.2.2)
  rw [hQ] at CA
  rw [hq0] at CA
  have hl0 := of_decide_eq_false hnon
  have jl : (((x.bl.length : Nat) : Int) == 0) = false := beq_eq_false_iff_ne.2 (by omega)
  rw [HK0.out] at k6
  go_wp2_with fail
  refine (CA.out).mono ?_; rintro e w7 ⟨rfl, hR7, c7⟩
  have A7 := jz (A6.out.chg c7 (by have := HXW.out; simp; omega))
  have PX7 := jz (PX6.out.chg c7 (by have := HXW.out; have := HS4.out; simp; omega))
  have B37 := jz (c7.below B36.out B36.out.size (fun k hk => by rw [List.mem_singleton.1 hk]; have := HXW.out; omega))
  have RG7 := jz (RG.out.chg c7 (fun k hk => by rw [List.mem_singleton.1 hk]; exact List.mem_cons_self ..) (by have := HXW.out; simp; omega))
  have R7 := jz hR7
  clear hR7 c7 e6 o6 d6 k6 k6o k6n k6v
  have e7 := A7.out.c0
  have k7 := PX7.out.c0
  have k7v := PX7.out.c4
  rw [HXv.out] at k7v
  rw [HK0.out] at k7
  have F : Hid (SOutH w w7 a S K D g (.returned (.int .i64 0))) := jz (sout_fin H3.out.1 RM3.out HDD.out.2 H3.out.2 CHW.out HIX.out HFR.out (Chg.of_below B37.out [g]) (RM3.out.below B37.out))
  go_wp2_with fail
  go_ret
  exact F.out
 case wears pl v h1 h2 h3 h4 h5 h6 h7 h8 h9 =>
  have hd : x.d = 4 := HK0.out
  have hi0 := HI0.out
  rw [hd] at h1
  have W4 := want4 hi0.len.1 hi0.hc.snd hi0.hc.ok HB.out h1
  have WP := jz W4.1
  have WQ := jz W4.2
  clear W4
  have hoff := WP.out.off
  have hdat := WP.out.data
  obtain ⟨Q, hQ⟩ : ∃ Q, refF X x.o x.bl.length = Q := ⟨_, rfl⟩
  rw [hQ] at WP
  have HIX : Hid (HI a S' (K + 1) X r) := jz h6
  have HFR : Hid ((Free S.s -> S.worn = false -> Free S'.s /\ S'.worn = false) /\ (S'.wf = S.wf \/ ¬ Free S.s)) := jz ⟨fun F => absurd F h9, .inr h9⟩
  obtain rfl : bw = false := by rw [<- HBW.out]; exact h5
  obtain ⟨hq0, hnon⟩ := WP.out.ch.1 h4.1
  have C5 := jz (fun w' (hb : Below w3.heap.size w3 w') => hworn_is (H3.out.1.below hb) HIX.out.live HIX.out.hc.lg.r1)
  rw [HZ.out, h8] at C5
  have h3' := h3
  subst h2
  clear h1 h3 h4 h5 h6 h7 h8 h9 hoff hdat hi0 hd
  have hv1 := ra_one h3'.ra
  obtain ⟨W4, hW4, hst4, HA4⟩ := an_boxed w3 3 0 hv1
  have OV4 := jz (h3'.below HA4.out.2)
  have A4 := jz HA4.out.1
  have B4 := jz HA4.out.2
  obtain ⟨qv, cv, hvv, _⟩ := ra_shape h3'.ra
  obtain ⟨nv, hnv⟩ : ∃ n, List.length ([] : List Int) = n := ⟨_, rfl⟩
  rw [hnv] at hvv
  subst hvv
  have la4 := A4.out.load
  have ce4 := A4.out.c0
  have SA := jz (rsame_is (w := W4) (e := 3) (o := 0) (e' := 3) (o' := 0) (v' := .slice none 0 0) (l' := []) OV4.out.ra (own_nil_by 0 W4).ra)
  rw [show decide ((3 : Int) = 3 /\ (0 : Int) = 0 /\ ([] : List Int) = []) = true by decide] at SA
  have RM4 := jz (RM3.out.below B4.out)
  have HS4 : Hid (w3.heap.size < W4.heap.size /\ w.heap.size < w3.heap.size) := jz ⟨A4.out.lt, by have := HN0.out.1; have := D2.out.size; have := CH3.out.size; omega⟩
  go_wp2_with fail
  refine (SA.out).mono ?_; rintro e w5 ⟨rfl, b5⟩
  have B5 := jz b5
  have RM5 := jz (RM4.out.below b5)
  have CL := jz (rclone_is _ RM5.out)
  clear b5 la4 ce4 SA hv1
  go_wp2_with fail
  refine (CL.out).mono ?_; rintro e w6 ⟨⟨xw, rfl, hxw, hxw2, hRx⟩, b6⟩
  have RX := jz hRx
  have RG := jz (RM5.out.more b6 hxw hxw2)
  have BB := jz (below_more B5.out b6)
  have A6 := jz ((A4.out.below BB.out))
  have PX6 := jz (((PX3.out.below B4.out).below BB.out))
  have HXW : Hid (w3.heap.size < xw /\ xw ≠ g) := jz (by have := B5.out.size; have := HS4.out; have := HN0.out; omega)
  have B36 := jz (below_more B4.out BB.out)
  clear hRx hxw hxw2 b6 CL
  have e6 := A6.out.c0
  have o6 := A6.out.c1
  have d6 := A6.out.c2
  have k6 := PX6.out.c0
  have k6o := PX6.out.c1
  have k6n := PX6.out.c2
  have k6v := PX6.out.c4
  rw [HXv.out] at k6v
  have CHW := jz ((Chg.of_below (below_more B0.out D2.out) (g :: a.D)).trans (CH3.out.mono fun k hk => List.mem_cons_of_mem _ hk))
  have XV6 := jz (ra_below XV3.out B36.out)
  have CA := jz (rmwrite_is x.o x.bl (.slice qx x.bl.length cx) w6 RX.out XV6.out HX.out.len HX.out.o pl.X WQ.out.1 WQ.out.2.1 WQ.out.2.2)
  rw [hQ] at CA
  rw [hq0] at CA
  have hl0 := of_decide_eq_false hnon
  have jl : (((x.bl.length : Nat) : Int) == 0) = false := beq_eq_false_iff_ne.2 (by omega)
  rw [HK0.out] at k6
  go_wp2_with fail
  refine (CA.out).mono ?_; rintro e w7 ⟨rfl, hR7, c7⟩
  have A7 := jz (A6.out.chg c7 (by have := HXW.out; simp; omega))
  have PX7 := jz (PX6.out.chg c7 (by have := HXW.out; have := HS4.out; simp; omega))
  have B37 := jz (c7.below B36.out B36.out.size (fun k hk => by rw [List.mem_singleton.1 hk]; have := HXW.out; omega))
  have RG7 := jz (RG.out.chg c7 (fun k hk => by rw [List.mem_singleton.1 hk]; exact List.mem_cons_self ..) (by have := HXW.out; simp; omega))
  have R7 := jz hR7
  clear hR7 c7 e6 o6 d6 k6 k6o k6n k6v
  have e7 := A7.out.c0
  have k7 := PX7.out.c0
  have k7v := PX7.out.c4
  rw [HXv.out] at k7v
  rw [HK0.out] at k7
  have F : Hid (SOutH w w7 a S K D g (.returned (.int .i64 0))) := jz (sout_fin H3.out.1 RM3.out HDD.out.2 H3.out.2 CHW.out HIX.out HFR.out (Chg.of_below B37.out [g]) (RM3.out.below B37.out))
  go_wp2_with fail
  refine (C5.out _ B37.out).mono ?_; rintro e w8 ⟨rfl, rfl⟩
  go_wp2_with fail
  go_ret
  exact F.out
theorem step_read {w : World} {a : Ha} {S : Hs} {K : Nat} {X : List Int} {r : Nat} {D : List Nat} {g : Nat} {l : List Bk} (x : Px) (hp : Hp w a S) (hi : HI a S K X r) (hK : K < 1000) (hco : S.s.comes = false) (hm : Rm w D g X l (r : Int)) (hD : ∀ k ∈ a.D, k ∈ D) (hg : g ∉ a.D) (hx : PxOk w x) (hxf : x.bl = [] \/ ∀ k, x.v.ownBlock = some k -> k ∉ a.D) (hk : x.d = 3) :
 Calls Tryz.prog 17 #[.pointer (some ⟨a.z, 0, none⟩), .pointer (some ⟨g, 0, none⟩), .agg (pxc x)] w fun e w' => SOutH w w' a S K D g e /\ SOutR w w' a S D g X l r := by
 obtain ⟨W0, hW0⟩ : ∃ W0, w.alloc (.cells (pxc x) 37) = W0 := ⟨_, rfl⟩
 have B0 := jz (show Below w.heap.size w W0 from by rw [<- hW0]; exact bal (Below.refl _ _))
 have PX := jz (show Pxv W0 w.heap.size x from by rw [<- hW0]; exact Pxv.new w x)
 obtain ⟨qx, cx, hxv, _⟩ := ra_shape hx.v
 have HX := jz hx
 have HXF := jz hxf
 have HI0 := jz hi
 have HP0 := jz hp
 have HM0 := jz hm
 have HKK := jz hK
 have HCO := jz hco
 have HDD := jz (And.intro hD hg)
 have HB := jz (show blkF X = some l from hm.hB)
 have C1 := jz (hWords_is (hp.below B0.out).hb hi.num hi.hc.lg hi.live hi.hc.has)
 have C2 := jz (fun w' (hb : Below W0.heap.size W0 w') => hcnt_is ((hp.below B0.out).below hb) (by have := hi.cn; have := hi.num.N; omega))
 have C3 := jz (fun w' (hb : Below W0.heap.size W0 w') => hworn_is ((hp.below B0.out).below hb) hi.live hi.hc.lg.r1)
 have C4 := jz (fun w' (hb : Below W0.heap.size W0 w') => hdo_is x ((hp.below B0.out).below hb) hi hK ((hx.below B0.out).below hb))
 have LX : Hid (∀ w', Pxv w' w.heap.size x -> (pxLoad (.pointer (some ⟨w.heap.size, 0, none⟩))).run Tryz.prog w' = .ok (.agg (pxc x)) w') := jz fun w' h => run_pxLoad fun j u hj => by rw [Whole.at_ h, Nat.zero_add, <- hj]; simp [pxc]
 have HXv := jz hxv
 obtain ⟨bw, hbw⟩ : ∃ b, S.worn = b := ⟨_, rfl⟩
 rw [hbw] at C3
 have HBW := jz hbw
 clear hp hi hK hco hm hD hg hx hxf hbw hxv
 obtain ⟨z, hz⟩ : ∃ z, a.z = z := ⟨_, rfl⟩
 have HZ := jz hz
 rw [hz] at C1 C2 C3 C4 ⊢
 clear hz
 obtain ⟨xc, hxc⟩ : ∃ xc, pxc x = xc := ⟨_, rfl⟩
 have HXC := jz hxc
 rw [hxc] at C4 LX hW0 ⊢
 clear hxc
 have HK0 := jz hk
 clear hk
 go_enter Tryz.func17, Tryz.ntmps17
 go_wp2_with fail
 refine (C1.out).mono ?_; rintro e w1 ⟨⟨v1, rfl, o1⟩, b1⟩
 have D1 := jz b1
 have O1 := jz o1
 obtain ⟨q1, c1, rfl⟩ := o1.shape
 clear o1 b1
 go_wp2_with fail
 refine (C2.out _ D1.out).mono ?_; rintro e w2 ⟨⟨v2, rfl, o2⟩, b2⟩
 have D2 := jz (below_more D1.out b2)
 have O1b := jz (O1.out.below b2)
 have O2 := jz o2
 obtain ⟨q2, c2, rfl, _⟩ := o2.ri
 clear o2 b2
 go_wp2_with fail
 refine (C3.out _ D2.out).mono ?_; rintro e w3 ⟨rfl, rfl⟩
 have lx2 := LX.out _ (PX.out.below D2.out)
 go_wp2_with fail
 refine (C4.out _ D2.out).mono ?_; rintro e w3 ho
 obtain ⟨S', hp3, hc3, la3, co3, n3, hcalm⟩ := do_calm HI0.out HKK.out HCO.out ho
 have H3 := jz (And.intro hp3 (And.intro la3 (And.intro co3 n3)))
 have CH3 := jz hc3
 have HN0 : Hid (w.heap.size < W0.heap.size /\ (∀ k ∈ a.D, k < w.heap.size) /\ g < w.heap.size) := jz ⟨PX.out.lt, fun k hk => HM0.out.dlt k (HDD.out.1 k hk), HM0.out.dlt g HM0.out.gD⟩
 have PX3 := jz ((PX.out.below D2.out).chg hc3 (fun q => by have := HN0.out.2.1 _ q; omega))
 have OW3 := jz (own_chg_u O1b.out hc3 (fun k hk => by have := HN0.out.2.1 _ hk; have := HN0.out.1; omega))
 have OI3 := jz (own_chg_h O2.out hc3 (fun k hk => by have := HN0.out.2.1 _ hk; have := HN0.out.1; have := D1.out.size; omega))
 have XV3 : Hid (RA byE w3 (.slice qx x.bl.length cx) x.bl) := jz (by rw [<- HXv.out]; exact ra_chg_or (ra_below (ra_below HX.out.v B0.out) D2.out) hc3 HXF.out)
 have RM3 := jz (((HM0.out.below B0.out).below D2.out).chg hc3 HDD.out.1 HDD.out.2)
 clear hp3 hc3 la3 co3 n3 ho C1 C2 C3 C4 lx2
 cases hcalm
 case goes pl v h1 h2 h3 h4 h5 h6 h7 h8 h9 =>
  have hd : x.d = 3 := HK0.out
  have hi0 := HI0.out
  rw [hd] at h1
  have hpl : pl = plD X r x.o x.nn := h1
  subst hpl
  have hSS : S' = S := h9 (.inl rfl)
  have HIX := jz (show HI a S' (K + 1) X r from h5)
  have HFR : Hid ((Free S.s -> S.worn = false -> Free S'.s /\ S'.worn = false) /\ (S'.wf = S.wf \/ ¬ Free S.s)) := jz (by rw [hSS]; exact ⟨fun F q => ⟨F, q⟩, .inl rfl⟩)
  have HSS := jz hSS
  have h2' : e = .returned (.agg (anc (refF X x.o x.nn) 0 v)) := h2
  clear h2
  subst h2'
  have h3' : OwnA byE w2.heap.size w3 v (rdR X x.o x.nn) := h3
  obtain ⟨E, hE⟩ : ∃ E, refF X x.o x.nn = E := ⟨_, rfl⟩
  obtain ⟨dt, hdt⟩ : ∃ dt, rdR X x.o x.nn = dt := ⟨_, rfl⟩
  rw [hdt] at h3'
  rw [hE]
  clear h1 h4 h5 h6 h7 h8 h9 hSS h3
  have hv1 := ra_one h3'.ra
  obtain ⟨W4, hW4, hst4, HA4⟩ := an_boxed w3 E 0 hv1
  have OV4 := jz (h3'.below HA4.out.2)
  have A4 := jz HA4.out.1
  have B4 := jz HA4.out.2
  obtain ⟨qv, cv, hvv, _⟩ := ra_shape h3'.ra
  obtain ⟨nv, hnv⟩ : ∃ n, List.length dt = n := ⟨_, rfl⟩
  rw [hnv] at hvv
  subst hvv
  have la4 := A4.out.load
  have ce4 := A4.out.c0
  obtain ⟨bo, hbo⟩ : ∃ b, Calls Tryz.prog 41 #[.agg (anc E 0 (.slice qv nv cv)), .agg (anc E 0 (.slice none 0 0))] W4 fun f w' => f = .returned (.bool b) /\ Below W4.heap.size W4 w' := ⟨_, rsame_is (w := W4) (e := E) (o := 0) (e' := E) (o' := 0) (v' := .slice none 0 0) (l' := []) OV4.out.ra (own_nil_by 0 W4).ra⟩
  have SA := jz hbo
  clear hbo
  have RM4 := jz (RM3.out.below B4.out)
  have HS4 : Hid (w3.heap.size < W4.heap.size /\ w.heap.size < w3.heap.size) := jz ⟨A4.out.lt, by have := HN0.out.1; have := D2.out.size; have := CH3.out.size; omega⟩
  go_wp2_with fail
  refine (SA.out).mono ?_; rintro e w5 ⟨rfl, b5⟩
  have B5 := jz b5
  have RM5 := jz (RM4.out.below b5)
  have CL := jz (rclone_is _ RM5.out)
  clear b5 la4 ce4 SA hv1
  go_wp2_with fail
  refine (CL.out).mono ?_; rintro e w6 ⟨⟨xw, rfl, hxw, hxw2, hRx⟩, b6⟩
  have RX := jz hRx
  have RG := jz (RM5.out.more b6 hxw hxw2)
  have BB := jz (below_more B5.out b6)
  have A6 := jz ((A4.out.below BB.out))
  have PX6 := jz (((PX3.out.below B4.out).below BB.out))
  have HXW : Hid (w3.heap.size < xw /\ xw ≠ g) := jz (by have := B5.out.size; have := HS4.out; have := HN0.out; omega)
  have B36 := jz (below_more B4.out BB.out)
  clear hRx hxw hxw2 b6 CL
  have e6 := A6.out.c0
  have o6 := A6.out.c1
  have d6 := A6.out.c2
  have k6 := PX6.out.c0
  have k6o := PX6.out.c1
  have k6n := PX6.out.c2
  have k6v := PX6.out.c4
  rw [HXv.out] at k6v
  have CHW := jz ((Chg.of_below (below_more B0.out D2.out) (g :: a.D)).trans (CH3.out.mono fun k hk => List.mem_cons_of_mem _ hk))
  have CA := jz (rmread_is x.o x.nn w6 RX.out HX.out.o HX.out.n)
  rw [hE, hdt] at CA
  rw [HK0.out] at k6
  go_wp2_with fail
  refine (CA.out).mono ?_; rintro e w7 ⟨⟨vr, rfl, ov⟩, b7⟩
  have OV7 := jz ov
  have A7 := jz (A6.out.below b7)
  have B37 := jz (below_more B36.out b7)
  have OA7 := jz (((OV4.out.below BB.out).below b7))
  clear b7 e6 o6 d6 k6 k6o k6n k6v CA
  have la7 := A7.out.load
  obtain ⟨qr, cr, hvr, _⟩ := ra_shape ov.ra
  rw [hnv] at hvr
  subst hvr
  clear ov
  have SB := jz (rsame_is (w := w7) (e := E) (o := 0) (e' := E) (o' := 0) OA7.out.ra OV7.out.ra)
  rw [show decide ((E : Int) = E /\ (0 : Int) = 0 /\ dt = dt) = true by simp] at SB
  go_wp2_with fail
  refine (SB.out).mono ?_; rintro e w8 ⟨rfl, b8⟩
  have F := jz (And.intro (sout_fin H3.out.1 RM3.out HDD.out.2 H3.out.2 CHW.out HIX.out HFR.out (Chg.of_below (below_more B37.out b8) [g]) (RM3.out.below (below_more B37.out b8))) (show SOutR w _ a S D g X l r from ⟨by rw [<- HSS.out]; exact H3.out.1.below (below_more B37.out b8), RM3.out.below (below_more B37.out b8), CHW.out.trans (Chg.of_below (below_more B37.out b8) _)⟩))
  go_wp2_with fail
  go_ret
  exact F.out
 case worn pl v h1 h2 h3 h4 h5 h6 =>
  have hd : x.d = 3 := HK0.out
  rw [hd] at h1
  have hpl : pl = plD X r x.o x.nn := h1
  rw [hpl] at h4
  cases h4
 case wears pl v h1 h2 h3 h4 h5 h6 h7 h8 h9 =>
  have hd : x.d = 3 := HK0.out
  rw [hd] at h1
  have hpl : pl = plD X r x.o x.nn := h1
  rw [hpl] at h4
  cases h4.1
theorem step_get {w : World} {a : Ha} {S : Hs} {K : Nat} {X : List Int} {r : Nat} {D : List Nat} {g : Nat} {l : List Bk} (x : Px) (hp : Hp w a S) (hi : HI a S K X r) (hK : K < 1000) (hco : S.s.comes = false) (hm : Rm w D g X l (r : Int)) (hD : ∀ k ∈ a.D, k ∈ D) (hg : g ∉ a.D) (hx : PxOk w x) (hxf : x.bl = [] \/ ∀ k, x.v.ownBlock = some k -> k ∉ a.D) (hk : x.d = 6) :
 Calls Tryz.prog 17 #[.pointer (some ⟨a.z, 0, none⟩), .pointer (some ⟨g, 0, none⟩), .agg (pxc x)] w fun e w' => SOutH w w' a S K D g e /\ SOutR w w' a S D g X l r := by
 obtain ⟨W0, hW0⟩ : ∃ W0, w.alloc (.cells (pxc x) 37) = W0 := ⟨_, rfl⟩
 have B0 := jz (show Below w.heap.size w W0 from by rw [<- hW0]; exact bal (Below.refl _ _))
 have PX := jz (show Pxv W0 w.heap.size x from by rw [<- hW0]; exact Pxv.new w x)
 obtain ⟨qx, cx, hxv, _⟩ := ra_shape hx.v
 have HX := jz hx
 have HXF := jz hxf
 have HI0 := jz hi
 have HP0 := jz hp
 have HM0 := jz hm
 have HKK := jz hK
 have HCO := jz hco
 have HDD := jz (And.intro hD hg)
 have HB := jz (show blkF X = some l from hm.hB)
 have C1 := jz (hWords_is (hp.below B0.out).hb hi.num hi.hc.lg hi.live hi.hc.has)
 have C2 := jz (fun w' (hb : Below W0.heap.size W0 w') => hcnt_is ((hp.below B0.out).below hb) (by have := hi.cn; have := hi.num.N; omega))
 have C3 := jz (fun w' (hb : Below W0.heap.size W0 w') => hworn_is ((hp.below B0.out).below hb) hi.live hi.hc.lg.r1)
 have C4 := jz (fun w' (hb : Below W0.heap.size W0 w') => hdo_is x ((hp.below B0.out).below hb) hi hK ((hx.below B0.out).below hb))
 have LX : Hid (∀ w', Pxv w' w.heap.size x -> (pxLoad (.pointer (some ⟨w.heap.size, 0, none⟩))).run Tryz.prog w' = .ok (.agg (pxc x)) w') := jz fun w' h => run_pxLoad fun j u hj => by rw [Whole.at_ h, Nat.zero_add, <- hj]; simp [pxc]
 have HXv := jz hxv
 obtain ⟨bw, hbw⟩ : ∃ b, S.worn = b := ⟨_, rfl⟩
 rw [hbw] at C3
 have HBW := jz hbw
 clear hp hi hK hco hm hD hg hx hxf hbw hxv
 obtain ⟨z, hz⟩ : ∃ z, a.z = z := ⟨_, rfl⟩
 have HZ := jz hz
 rw [hz] at C1 C2 C3 C4 ⊢
 clear hz
 obtain ⟨xc, hxc⟩ : ∃ xc, pxc x = xc := ⟨_, rfl⟩
 have HXC := jz hxc
 rw [hxc] at C4 LX hW0 ⊢
 clear hxc
 have HK0 := jz hk
 clear hk
 go_enter Tryz.func17, Tryz.ntmps17
 go_wp2_with fail
 refine (C1.out).mono ?_; rintro e w1 ⟨⟨v1, rfl, o1⟩, b1⟩
 have D1 := jz b1
 have O1 := jz o1
 obtain ⟨q1, c1, rfl⟩ := o1.shape
 clear o1 b1
 go_wp2_with fail
 refine (C2.out _ D1.out).mono ?_; rintro e w2 ⟨⟨v2, rfl, o2⟩, b2⟩
 have D2 := jz (below_more D1.out b2)
 have O1b := jz (O1.out.below b2)
 have O2 := jz o2
 obtain ⟨q2, c2, rfl, _⟩ := o2.ri
 clear o2 b2
 go_wp2_with fail
 refine (C3.out _ D2.out).mono ?_; rintro e w3 ⟨rfl, rfl⟩
 have lx2 := LX.out _ (PX.out.below D2.out)
 go_wp2_with fail
 refine (C4.out _ D2.out).mono ?_; rintro e w3 ho
 obtain ⟨S', hp3, hc3, la3, co3, n3, hcalm⟩ := do_calm HI0.out HKK.out HCO.out ho
 have H3 := jz (And.intro hp3 (And.intro la3 (And.intro co3 n3)))
 have CH3 := jz hc3
 have HN0 : Hid (w.heap.size < W0.heap.size /\ (∀ k ∈ a.D, k < w.heap.size) /\ g < w.heap.size) := jz ⟨PX.out.lt, fun k hk => HM0.out.dlt k (HDD.out.1 k hk), HM0.out.dlt g HM0.out.gD⟩
 have PX3 := jz ((PX.out.below D2.out).chg hc3 (fun q => by have := HN0.out.2.1 _ q; omega))
 have OW3 := jz (own_chg_u O1b.out hc3 (fun k hk => by have := HN0.out.2.1 _ hk; have := HN0.out.1; omega))
 have OI3 := jz (own_chg_h O2.out hc3 (fun k hk => by have := HN0.out.2.1 _ hk; have := HN0.out.1; have := D1.out.size; omega))
 have XV3 : Hid (RA byE w3 (.slice qx x.bl.length cx) x.bl) := jz (by rw [<- HXv.out]; exact ra_chg_or (ra_below (ra_below HX.out.v B0.out) D2.out) hc3 HXF.out)
 have RM3 := jz (((HM0.out.below B0.out).below D2.out).chg hc3 HDD.out.1 HDD.out.2)
 clear hp3 hc3 la3 co3 n3 ho C1 C2 C3 C4 lx2
 cases hcalm
 case goes pl v h1 h2 h3 h4 h5 h6 h7 h8 h9 =>
  have hd : x.d = 6 := HK0.out
  have hi0 := HI0.out
  rw [hd] at h1
  have hpl : pl = plG X r := h1
  subst hpl
  have hSS : S' = S := h9 (.inl rfl)
  have HIX := jz (show HI a S' (K + 1) X r from h5)
  have HFR : Hid ((Free S.s -> S.worn = false -> Free S'.s /\ S'.worn = false) /\ (S'.wf = S.wf \/ ¬ Free S.s)) := jz (by rw [hSS]; exact ⟨fun F q => ⟨F, q⟩, .inl rfl⟩)
  have HSS := jz hSS
  have h2' : e = .returned (.agg (anc 0 (r : Int) v)) := h2
  clear h2
  subst h2'
  have h3' : OwnA byE w2.heap.size w3 v [] := h3
  clear h1 h4 h5 h6 h7 h8 h9 hSS h3
  have hv1 := ra_one h3'.ra
  obtain ⟨W4, hW4, hst4, HA4⟩ := an_boxed w3 0 (r : Int) hv1
  have OV4 := jz (h3'.below HA4.out.2)
  have A4 := jz HA4.out.1
  have B4 := jz HA4.out.2
  obtain ⟨qv, cv, hvv, _⟩ := ra_shape h3'.ra
  obtain ⟨nv, hnv⟩ : ∃ n, List.length ([] : List Int) = n := ⟨_, rfl⟩
  rw [hnv] at hvv
  subst hvv
  have la4 := A4.out.load
  have ce4 := A4.out.c0
  obtain ⟨bo, hbo⟩ : ∃ b, Calls Tryz.prog 41 #[.agg (anc 0 (r : Int) (.slice qv nv cv)), .agg (anc 0 0 (.slice none 0 0))] W4 fun f w' => f = .returned (.bool b) /\ Below W4.heap.size W4 w' := ⟨_, rsame_is (w := W4) (e := 0) (o := (r : Int)) (e' := 0) (o' := 0) (v' := .slice none 0 0) (l' := []) OV4.out.ra (own_nil_by 0 W4).ra⟩
  have SA := jz hbo
  clear hbo
  have RM4 := jz (RM3.out.below B4.out)
  have HS4 : Hid (w3.heap.size < W4.heap.size /\ w.heap.size < w3.heap.size) := jz ⟨A4.out.lt, by have := HN0.out.1; have := D2.out.size; have := CH3.out.size; omega⟩
  go_wp2_with fail
  refine (SA.out).mono ?_; rintro e w5 ⟨rfl, b5⟩
  have B5 := jz b5
  have RM5 := jz (RM4.out.below b5)
  have CL := jz (rclone_is _ RM5.out)
  clear b5 la4 ce4 SA hv1
  go_wp2_with fail
  refine (CL.out).mono ?_; rintro e w6 ⟨⟨xw, rfl, hxw, hxw2, hRx⟩, b6⟩
  have RX := jz hRx
  have RG := jz (RM5.out.more b6 hxw hxw2)
  have BB := jz (below_more B5.out b6)
  have A6 := jz ((A4.out.below BB.out))
  have PX6 := jz (((PX3.out.below B4.out).below BB.out))
  have HXW : Hid (w3.heap.size < xw /\ xw ≠ g) := jz (by have := B5.out.size; have := HS4.out; have := HN0.out; omega)
  have B36 := jz (below_more B4.out BB.out)
  clear hRx hxw hxw2 b6 CL
  have e6 := A6.out.c0
  have o6 := A6.out.c1
  have d6 := A6.out.c2
  have k6 := PX6.out.c0
  have k6o := PX6.out.c1
  have k6n := PX6.out.c2
  have k6v := PX6.out.c4
  rw [HXv.out] at k6v
  have CHW := jz ((Chg.of_below (below_more B0.out D2.out) (g :: a.D)).trans (CH3.out.mono fun k hk => List.mem_cons_of_mem _ hk))
  rw [HK0.out] at k6
  have SB := jz (fun w' (hb : Below w6.heap.size w6 w') => rsame_is (w := w') (e := 0) (o := (r : Int)) (e' := 0) (o' := (r : Int)) (v' := .slice none 0 0) (l' := []) ((OV4.out.below BB.out).below hb).ra (own_nil_by 0 w').ra)
  rw [show decide ((0 : Int) = 0 /\ ((r : Nat) : Int) = r /\ ([] : List Int) = []) = true by simp] at SB
  have la7 : ∀ w', Below w6.heap.size w6 w' -> (anLoad (.pointer (some ⟨w3.heap.size, 0, none⟩))).run Tryz.prog w' = .ok (.agg (anc 0 (r : Int) (.slice qv nv cv))) w' := fun w' hb => (A6.out.below hb).load
  have cr7 : ∀ w', Below w6.heap.size w6 w' -> w'.cell? ⟨g, 1, none⟩ = some (.int .i64 (r : Int)) := fun w' hb => by
   obtain ⟨mv, mW, _⟩ := (RG.out.below hb).rows
   rw [Whole.at_ mW]; rfl
  go_wp2
  go_region_held3 (fun w' => Below w6.heap.size w6 w')
   (first | assumption | exact (Below.refl _ _).drew)
   (first
     | (go_at_call 41; refine (SB.out _ (by first | assumption | exact (Below.refl _ _).drew)).mono ?_; rintro e w8 ⟨rfl, b8⟩
        have B8 := jz ((Below.refl w6.heap.size w6).drew.trans b8)
        clear b8))
  have F := jz (And.intro (sout_fin H3.out.1 RM3.out HDD.out.2 H3.out.2 CHW.out HIX.out HFR.out (Chg.of_below (below_more B36.out B8.out) [g]) (RM3.out.below (below_more B36.out B8.out))) (show SOutR w _ a S D g X l r from ⟨by rw [<- HSS.out]; exact H3.out.1.below (below_more B36.out B8.out), RM3.out.below (below_more B36.out B8.out), CHW.out.trans (Chg.of_below (below_more B36.out B8.out) _)⟩))
  go_wp2_with fail
  go_ret
  exact F.out
 case worn pl v h1 h2 h3 h4 h5 h6 =>
  have hd : x.d = 6 := HK0.out
  rw [hd] at h1
  have hpl : pl = plG X r := h1
  rw [hpl] at h4
  cases h4
 case wears pl v h1 h2 h3 h4 h5 h6 h7 h8 h9 =>
  have hd : x.d = 6 := HK0.out
  rw [hd] at h1
  have hpl : pl = plG X r := h1
  rw [hpl] at h4
  cases h4.1
theorem step_alloc {w : World} {a : Ha} {S : Hs} {K : Nat} {X : List Int} {r : Nat} {D : List Nat} {g : Nat} {l : List Bk} (x : Px) (hp : Hp w a S) (hi : HI a S K X r) (hK : K < 1000) (hco : S.s.comes = false) (hm : Rm w D g X l (r : Int)) (hD : ∀ k ∈ a.D, k ∈ D) (hg : g ∉ a.D) (hx : PxOk w x) (hxf : x.bl = [] \/ ∀ k, x.v.ownBlock = some k -> k ∉ a.D) (hk : x.d = 1) :
 Calls Tryz.prog 17 #[.pointer (some ⟨a.z, 0, none⟩), .pointer (some ⟨g, 0, none⟩), .agg (pxc x)] w fun e w' => SOutH w w' a S K D g e := by
 obtain ⟨W0, hW0⟩ : ∃ W0, w.alloc (.cells (pxc x) 37) = W0 := ⟨_, rfl⟩
 have B0 := jz (show Below w.heap.size w W0 from by rw [<- hW0]; exact bal (Below.refl _ _))
 have PX := jz (show Pxv W0 w.heap.size x from by rw [<- hW0]; exact Pxv.new w x)
 obtain ⟨qx, cx, hxv, _⟩ := ra_shape hx.v
 have HX := jz hx
 have HXF := jz hxf
 have HI0 := jz hi
 have HP0 := jz hp
 have HM0 := jz hm
 have HKK := jz hK
 have HCO := jz hco
 have HDD := jz (And.intro hD hg)
 have HB := jz (show blkF X = some l from hm.hB)
 have C1 := jz (hWords_is (hp.below B0.out).hb hi.num hi.hc.lg hi.live hi.hc.has)
 have C2 := jz (fun w' (hb : Below W0.heap.size W0 w') => hcnt_is ((hp.below B0.out).below hb) (by have := hi.cn; have := hi.num.N; omega))
 have C3 := jz (fun w' (hb : Below W0.heap.size W0 w') => hworn_is ((hp.below B0.out).below hb) hi.live hi.hc.lg.r1)
 have C4 := jz (fun w' (hb : Below W0.heap.size W0 w') => hdo_is x ((hp.below B0.out).below hb) hi hK ((hx.below B0.out).below hb))
 have LX : Hid (∀ w', Pxv w' w.heap.size x -> (pxLoad (.pointer (some ⟨w.heap.size, 0, none⟩))).run Tryz.prog w' = .ok (.agg (pxc x)) w') := jz fun w' h => run_pxLoad fun j u hj => by rw [Whole.at_ h, Nat.zero_add, <- hj]; simp [pxc]
 have HXv := jz hxv
 obtain ⟨bw, hbw⟩ : ∃ b, S.worn = b := ⟨_, rfl⟩
 rw [hbw] at C3
 have HBW := jz hbw
 clear hp hi hK hco hm hD hg hx hxf hbw hxv
 obtain ⟨z, hz⟩ : ∃ z, a.z = z := ⟨_, rfl⟩
 have HZ := jz hz
 rw [hz] at C1 C2 C3 C4 ⊢
 clear hz
 obtain ⟨xc, hxc⟩ : ∃ xc, pxc x = xc := ⟨_, rfl⟩
 have HXC := jz hxc
 rw [hxc] at C4 LX hW0 ⊢
 clear hxc
 have HK0 := jz hk
 clear hk
 go_enter Tryz.func17, Tryz.ntmps17
 go_wp2_with fail
 refine (C1.out).mono ?_; rintro e w1 ⟨⟨v1, rfl, o1⟩, b1⟩
 have D1 := jz b1
 have O1 := jz o1
 obtain ⟨q1, c1, rfl⟩ := o1.shape
 clear o1 b1
 go_wp2_with fail
 refine (C2.out _ D1.out).mono ?_; rintro e w2 ⟨⟨v2, rfl, o2⟩, b2⟩
 have D2 := jz (below_more D1.out b2)
 have O1b := jz (O1.out.below b2)
 have O2 := jz o2
 obtain ⟨q2, c2, rfl, _⟩ := o2.ri
 clear o2 b2
 go_wp2_with fail
 refine (C3.out _ D2.out).mono ?_; rintro e w3 ⟨rfl, rfl⟩
 have lx2 := LX.out _ (PX.out.below D2.out)
 go_wp2_with fail
 refine (C4.out _ D2.out).mono ?_; rintro e w3 ho
 obtain ⟨S', hp3, hc3, la3, co3, n3, hcalm⟩ := do_calm HI0.out HKK.out HCO.out ho
 have H3 := jz (And.intro hp3 (And.intro la3 (And.intro co3 n3)))
 have CH3 := jz hc3
 have HN0 : Hid (w.heap.size < W0.heap.size /\ (∀ k ∈ a.D, k < w.heap.size) /\ g < w.heap.size) := jz ⟨PX.out.lt, fun k hk => HM0.out.dlt k (HDD.out.1 k hk), HM0.out.dlt g HM0.out.gD⟩
 have PX3 := jz ((PX.out.below D2.out).chg hc3 (fun q => by have := HN0.out.2.1 _ q; omega))
 have OW3 := jz (own_chg_u O1b.out hc3 (fun k hk => by have := HN0.out.2.1 _ hk; have := HN0.out.1; omega))
 have OI3 := jz (own_chg_h O2.out hc3 (fun k hk => by have := HN0.out.2.1 _ hk; have := HN0.out.1; have := D1.out.size; omega))
 have XV3 : Hid (RA byE w3 (.slice qx x.bl.length cx) x.bl) := jz (by rw [<- HXv.out]; exact ra_chg_or (ra_below (ra_below HX.out.v B0.out) D2.out) hc3 HXF.out)
 have RM3 := jz (((HM0.out.below B0.out).below D2.out).chg hc3 HDD.out.1 HDD.out.2)
 clear hp3 hc3 la3 co3 n3 ho C1 C2 C3 C4 lx2
 cases hcalm
 case goes pl v h1 h2 h3 h4 h5 h6 h7 h8 h9 =>
  have hd : x.d = 1 := HK0.out
  have hi0 := HI0.out
  rw [hd] at h1
  have hpl : pl = plA X r S.ct.ints x.nn := h1
  have N3 : Hid (pl.e ≠ 3) := jz (plan_three h1)
  have AN := jz (aim_alloc_no (X := X) (r := r) (n := x.nn) (cs := S.ct.ints))
  have A0 := jz (fun q => aim_alloc (X := X) (l := l) (r := r) (N := a.N) (n := x.nn) (cs := S.ct.ints) hi0.len.1 hi0.hc.snd hi0.hc.ok HB.out q)
  have OD : Hid (pl.data = [] /\ (pl.e ≠ 0 -> pl.off = 0)) := jz (by
   rw [hpl]
   unfold plA plNo
   split
   . exact ⟨rfl, fun _ => rfl⟩
   . split
     . exact ⟨rfl, fun q => absurd rfl q⟩
     . exact ⟨rfl, fun _ => rfl⟩)
  rw [<- hpl] at AN A0
  have hAE := AN.out.1
  have hdat := OD.out.1
  have hXl : X.length <= 1000 := by have := HM0.out.len.2.1; omega
  have RA := fun (w' : World) (hb : Below w3.heap.size w3 w') => ral_is X x.nn S.ct.ints (.slice q1 X.length c1) (.slice q2 S.ct.ints.length c2) w' (ru_below OW3.out.ru hb) hXl hi0.hc.ok (ri_below OI3.out.ri hb)
  obtain ⟨E, hE⟩ : ∃ E, (alR X x.nn S.ct.ints).2.2 = E := ⟨_, rfl⟩
  obtain ⟨O, hO⟩ : ∃ O, (alR X x.nn S.ct.ints).2.1 = O := ⟨_, rfl⟩
  rw [hE] at hAE AN
  rw [hO] at A0
  have RA' := jz RA
  rw [hE, hO] at RA'
  clear RA hXl
  have PR : Hid (E ≠ 0 -> pl.X = X /\ pl.r = r) := jz fun q => by
   have p := plan_rest h1 (fun _ => by rw [hAE]; exact q)
   exact ⟨p.1, p.2.1⟩
  have HIX : Hid (HI a S' (K + 1) pl.X pl.r) := jz h5
  have HFR : Hid ((Free S.s -> S.worn = false -> Free S'.s /\ S'.worn = false) /\ (S'.wf = S.wf \/ ¬ Free S.s)) := jz ⟨fun F q => by
   have hw2 := worn_no q
   obtain ⟨f1, f2⟩ := h7 F hw2.2
   exact ⟨f1, by unfold Hs.worn; rw [h8, hw2.1, f2]; rfl⟩, .inl h8⟩
  have HCH : Hid (pl.ch = true -> bw = false) := jz fun q => by rw [<- HBW.out]; exact h4 q
  rw [hAE] at h2
  rw [hdat] at h3
  by_cases h0 : E = 0
  . subst h0
    have q0 := A0.out hAE
    have ho := q0.2.1
    rw [ho] at h2
    have Q0 := jz (And.intro q0.2.2.1 (And.intro q0.2.2.2.1 (And.intro q0.2.2.2.2.1 q0.2.2.2.2.2.2.1)))
    rw [ho] at Q0
    have hch : pl.ch = true := by
     cases e : pl.ch with
     | true => rfl
     | false => exact absurd (AN.out.2.1 e) (by decide)
    obtain rfl : bw = false := HCH.out hch
    subst h2
    have h3' := h3
    clear h1 h3 h4 h5 h6 h7 h8 h9 hdat hi0 hd hpl q0 ho hch hAE hE hO A0 AN
    have hv1 := ra_one h3'.ra
    obtain ⟨W4, hW4, hst4, HA4⟩ := an_boxed w3 0 O hv1
    have OV4 := jz (h3'.below HA4.out.2)
    have A4 := jz HA4.out.1
    have B4 := jz HA4.out.2
    obtain ⟨qv, cv, hvv, _⟩ := ra_shape h3'.ra
    obtain ⟨nv, hnv⟩ : ∃ n, List.length ([] : List Int) = n := ⟨_, rfl⟩
    rw [hnv] at hvv
    subst hvv
    have la4 := A4.out.load
    have ce4 := A4.out.c0
    obtain ⟨bo, hbo⟩ : ∃ b, Calls Tryz.prog 41 #[.agg (anc 0 O (.slice qv nv cv)), .agg (anc 0 0 (.slice none 0 0))] W4 fun f w' => f = .returned (.bool b) /\ Below W4.heap.size W4 w' := ⟨_, rsame_is (w := W4) (e := 0) (o := O) (e' := 0) (o' := 0) (v' := .slice none 0 0) (l' := []) OV4.out.ra (own_nil_by 0 W4).ra⟩
    have SA := jz hbo
    clear hbo
    have RM4 := jz (RM3.out.below B4.out)
    have HS4 : Hid (w3.heap.size < W4.heap.size /\ w.heap.size < w3.heap.size) := jz ⟨A4.out.lt, by have := HN0.out.1; have := D2.out.size; have := CH3.out.size; omega⟩
    go_wp2_with fail
    refine (SA.out).mono ?_; rintro e w5 ⟨rfl, b5⟩
    have B5 := jz b5
    have RM5 := jz (RM4.out.below b5)
    have CL := jz (rclone_is _ RM5.out)
    clear b5 la4 ce4 SA hv1
    go_wp2_with fail
    refine (CL.out).mono ?_; rintro e w6 ⟨⟨xw, rfl, hxw, hxw2, hRx⟩, b6⟩
    have RX := jz hRx
    have RG := jz (RM5.out.more b6 hxw hxw2)
    have BB := jz (below_more B5.out b6)
    have A6 := jz ((A4.out.below BB.out))
    have PX6 := jz (((PX3.out.below B4.out).below BB.out))
    have HXW : Hid (w3.heap.size < xw /\ xw ≠ g) := jz (by have := B5.out.size; have := HS4.out; have := HN0.out; omega)
    have B36 := jz (below_more B4.out BB.out)
    clear hRx hxw hxw2 b6 CL
    have e6 := A6.out.c0
    have o6 := A6.out.c1
    have d6 := A6.out.c2
    have k6 := PX6.out.c0
    have k6o := PX6.out.c1
    have k6n := PX6.out.c2
    have k6v := PX6.out.c4
    rw [HXv.out] at k6v
    have CHW := jz ((Chg.of_below (below_more B0.out D2.out) (g :: a.D)).trans (CH3.out.mono fun k hk => List.mem_cons_of_mem _ hk))
    have CA := RA'.out _ B36.out
    rw [HK0.out] at k6
    go_wp2_with fail
    refine CA.mono ?_; rintro e w7 ⟨⟨vx, rfl, _⟩, b7⟩
    have A7 := jz (A6.out.below b7)
    have PX7 := jz (PX6.out.below b7)
    have B37 := jz (below_more B36.out b7)
    have RG7 := jz (RG.out.below b7)
    have R7 := jz (RX.out.below b7)
    clear b7 e6 o6 d6 k6 k6o k6n k6v CA RA'
    have e7 := A7.out.c0
    have o7 := A7.out.c1
    have d7 := A7.out.c2
    have k7n := PX7.out.c2
    have CB := jz (rmalloc_is x.nn O w7 R7.out)
    rw [Q0.out.1] at CB
    have nv0 : nv = 0 := hnv.symm
    subst nv0
    go_wp2_with fail
    refine (CB.out).mono ?_; rintro e w8 ⟨rfl, hR8, c8⟩
    have B38 := jz (c8.below B37.out B37.out.size (fun k hk => by rw [List.mem_singleton.1 hk]; have := HXW.out; omega))
    have RG8 := jz (RG7.out.chg c8 (fun k hk => by rw [List.mem_singleton.1 hk]; exact List.mem_cons_self ..) (by have := HXW.out; simp; omega))
    obtain ⟨vt, t1, t2, t3, t4, t5, _⟩ := RG8.out.take hR8 (fun k hk => hk)
    obtain ⟨qt, nt, ct, rfl⟩ := t5
    obtain ⟨y0, t2'⟩ : ∃ y, w8.cell? ⟨g, 0, none⟩ = some y := by
     cases e : w8.cell? ⟨g, 0, none⟩ with
     | some y => exact ⟨y, rfl⟩
     | none => exact absurd e t2
    have F : Hid (SOutH w (w8.setCell ⟨g, 0, none⟩ (.slice qt nt ct)) a S K D g (.returned (.int .i64 0))) := jz (sout_fin H3.out.1 RM3.out HDD.out.2 H3.out.2 CHW.out HIX.out HFR.out ((Chg.of_below B38.out [g]).setCell (p := ⟨g, 0, none⟩) (.inl (by simp)) _) (by
     rw [Q0.out.2.1] at t4
     rw [Q0.out.2.2.2]
     exact t4.less_h (fun k hk => List.mem_cons_of_mem _ hk) HM0.out.gD))
    clear t2 t4 hR8 c8
    go_wp2_with fail
    go_ret
    exact F.out
  . have ho := OD.out.2 (by rw [hAE]; exact h0)
    rw [ho] at h2
    subst h2
    have h3' := h3
    have j3' : E ≠ 3 := by rw [<- hAE]; exact N3.out
    clear h1 h3 h4 h5 h6 h7 h8 h9 hdat hi0 hd hpl ho hAE hE hO A0
    have hv1 := ra_one h3'.ra
    obtain ⟨W4, hW4, hst4, HA4⟩ := an_boxed w3 E 0 hv1
    have OV4 := jz (h3'.below HA4.out.2)
    have A4 := jz HA4.out.1
    have B4 := jz HA4.out.2
    obtain ⟨qv, cv, hvv, _⟩ := ra_shape h3'.ra
    obtain ⟨nv, hnv⟩ : ∃ n, List.length ([] : List Int) = n := ⟨_, rfl⟩
    rw [hnv] at hvv
    subst hvv
    have la4 := A4.out.load
    have ce4 := A4.out.c0
    have SA := jz (rsame_is (w := W4) (e := E) (o := 0) (e' := E) (o' := 0) (v' := .slice none 0 0) (l' := []) OV4.out.ra (own_nil_by 0 W4).ra)
    rw [show decide ((E : Int) = E /\ (0 : Int) = 0 /\ ([] : List Int) = []) = true by simp] at SA
    have RM4 := jz (RM3.out.below B4.out)
    have HS4 : Hid (w3.heap.size < W4.heap.size /\ w.heap.size < w3.heap.size) := jz ⟨A4.out.lt, by have := HN0.out.1; have := D2.out.size; have := CH3.out.size; omega⟩
    go_wp2_with fail
    refine (SA.out).mono ?_; rintro e w5 ⟨rfl, b5⟩
    have B5 := jz b5
    have RM5 := jz (RM4.out.below b5)
    have CL := jz (rclone_is _ RM5.out)
    clear b5 la4 ce4 SA hv1
    go_wp2_with fail
    refine (CL.out).mono ?_; rintro e w6 ⟨⟨xw, rfl, hxw, hxw2, hRx⟩, b6⟩
    have RX := jz hRx
    have RG := jz (RM5.out.more b6 hxw hxw2)
    have BB := jz (below_more B5.out b6)
    have A6 := jz ((A4.out.below BB.out))
    have PX6 := jz (((PX3.out.below B4.out).below BB.out))
    have HXW : Hid (w3.heap.size < xw /\ xw ≠ g) := jz (by have := B5.out.size; have := HS4.out; have := HN0.out; omega)
    have B36 := jz (below_more B4.out BB.out)
    clear hRx hxw hxw2 b6 CL
    have e6 := A6.out.c0
    have o6 := A6.out.c1
    have d6 := A6.out.c2
    have k6 := PX6.out.c0
    have k6o := PX6.out.c1
    have k6n := PX6.out.c2
    have k6v := PX6.out.c4
    rw [HXv.out] at k6v
    have CHW := jz ((Chg.of_below (below_more B0.out D2.out) (g :: a.D)).trans (CH3.out.mono fun k hk => List.mem_cons_of_mem _ hk))
    have CA := RA'.out _ B36.out
    rw [HK0.out] at k6
    go_wp2_with fail
    refine CA.mono ?_; rintro e w7 ⟨⟨vx, rfl, _⟩, b7⟩
    have A7 := jz (A6.out.below b7)
    have PX7 := jz (PX6.out.below b7)
    have B37 := jz (below_more B36.out b7)
    have RG7 := jz (RG.out.below b7)
    have R7 := jz (RX.out.below b7)
    clear b7 e6 o6 d6 k6 k6o k6n k6v CA RA'
    have e7 := A7.out.c0
    have o7 := A7.out.c1
    have d7 := A7.out.c2
    have k7n := PX7.out.c2
    have F : Hid (SOutH w w7 a S K D g (.returned (.int .i64 0))) := jz (sout_fin H3.out.1 RM3.out HDD.out.2 H3.out.2 CHW.out HIX.out HFR.out (Chg.of_below B37.out [g]) (by rw [(PR.out h0).1, (PR.out h0).2]; exact RM3.out.below B37.out))
    cases bw
    . have j0 : (E == 0) = false := beq_eq_false_iff_ne.2 h0
      have j3 : (E == 3) = false := beq_eq_false_iff_ne.2 j3'
      clear h0 j3'
      go_wp2_with fail
      go_ret
      exact F.out
    . obtain rfl : E = 1 := AN.out.2.1 (by
       cases e : pl.ch with
       | false => rfl
       | true => exact absurd (HCH.out e) (by decide))
      clear h0 j3'
      go_wp2_with fail
      go_ret
      exact F.out
 case worn pl v h1 h2 h3 h4 h5 h6 =>
  have hd : x.d = 1 := HK0.out
  have hi0 := HI0.out
  rw [hd] at h1
  have hpl : pl = plA X r S.ct.ints x.nn := h1
  have N3 : Hid (pl.e ≠ 3) := jz (plan_three h1)
  have AN := jz (aim_alloc_no (X := X) (r := r) (n := x.nn) (cs := S.ct.ints))
  have A0 := jz (fun q => aim_alloc (X := X) (l := l) (r := r) (N := a.N) (n := x.nn) (cs := S.ct.ints) hi0.len.1 hi0.hc.snd hi0.hc.ok HB.out q)
  have OD : Hid (pl.data = [] /\ (pl.e ≠ 0 -> pl.off = 0)) := jz (by
   rw [hpl]
   unfold plA plNo
   split
   . exact ⟨rfl, fun _ => rfl⟩
   . split
     . exact ⟨rfl, fun q => absurd rfl q⟩
     . exact ⟨rfl, fun _ => rfl⟩)
  rw [<- hpl] at AN A0
  have hAE := AN.out.1
  have hdat := OD.out.1
  have hXl : X.length <= 1000 := by have := HM0.out.len.2.1; omega
  have RA := fun (w' : World) (hb : Below w3.heap.size w3 w') => ral_is X x.nn S.ct.ints (.slice q1 X.length c1) (.slice q2 S.ct.ints.length c2) w' (ru_below OW3.out.ru hb) hXl hi0.hc.ok (ri_below OI3.out.ri hb)
  obtain ⟨E, hE⟩ : ∃ E, (alR X x.nn S.ct.ints).2.2 = E := ⟨_, rfl⟩
  obtain ⟨O, hO⟩ : ∃ O, (alR X x.nn S.ct.ints).2.1 = O := ⟨_, rfl⟩
  rw [hE] at hAE AN
  rw [hO] at A0
  have RA' := jz RA
  rw [hE, hO] at RA'
  clear RA hXl
  have HIX : Hid (HI a S' (K + 1) X r) := jz (by have := HKK.out; rw [h6]; exact hi0.more (by omega) (by omega))
  have HFR : Hid ((Free S.s -> S.worn = false -> Free S'.s /\ S'.worn = false) /\ (S'.wf = S.wf \/ ¬ Free S.s)) := jz (by rw [h6]; exact ⟨fun F q => (by rw [h5] at q; cases q), .inl rfl⟩)
  obtain rfl : bw = true := by rw [<- HBW.out]; exact h5
  have E1 : E ≠ 1 := AN.out.2.2 h4
  have h3' := h3
  subst h2
  clear h1 h3 h4 h5 h6 hdat hi0 hd hpl hAE hE hO A0 AN
  have hv1 := ra_one h3'.ra
  obtain ⟨W4, hW4, hst4, HA4⟩ := an_boxed w3 3 0 hv1
  have OV4 := jz (h3'.below HA4.out.2)
  have A4 := jz HA4.out.1
  have B4 := jz HA4.out.2
  obtain ⟨qv, cv, hvv, _⟩ := ra_shape h3'.ra
  obtain ⟨nv, hnv⟩ : ∃ n, List.length ([] : List Int) = n := ⟨_, rfl⟩
  rw [hnv] at hvv
  subst hvv
  have la4 := A4.out.load
  have ce4 := A4.out.c0
  have SA := jz (rsame_is (w := W4) (e := 3) (o := 0) (e' := 3) (o' := 0) (v' := .slice none 0 0) (l' := []) OV4.out.ra (own_nil_by 0 W4).ra)
  rw [show decide ((3 : Int) = 3 /\ (0 : Int) = 0 /\ ([] : List Int) = []) = true by decide] at SA
  have RM4 := jz (RM3.out.below B4.out)
  have HS4 : Hid (w3.heap.size < W4.heap.size /\ w.heap.size < w3.heap.size) := jz ⟨A4.out.lt, by have := HN0.out.1; have := D2.out.size; have := CH3.out.size; omega⟩
  go_wp2_with fail
  refine (SA.out).mono ?_; rintro e w5 ⟨rfl, b5⟩
  have B5 := jz b5
  have RM5 := jz (RM4.out.below b5)
  have CL := jz (rclone_is _ RM5.out)
  clear b5 la4 ce4 SA hv1
  go_wp2_with fail
  refine (CL.out).mono ?_; rintro e w6 ⟨⟨xw, rfl, hxw, hxw2, hRx⟩, b6⟩
  have RX := jz hRx
  have RG := jz (RM5.out.more b6 hxw hxw2)
  have BB := jz (below_more B5.out b6)
  have A6 := jz ((A4.out.below BB.out))
  have PX6 := jz (((PX3.out.below B4.out).below BB.out))
  have HXW : Hid (w3.heap.size < xw /\ xw ≠ g) := jz (by have := B5.out.size; have := HS4.out; have := HN0.out; omega)
  have B36 := jz (below_more B4.out BB.out)
  clear hRx hxw hxw2 b6 CL
  have e6 := A6.out.c0
  have o6 := A6.out.c1
  have d6 := A6.out.c2
  have k6 := PX6.out.c0
  have k6o := PX6.out.c1
  have k6n := PX6.out.c2
  have k6v := PX6.out.c4
  rw [HXv.out] at k6v
  have CHW := jz ((Chg.of_below (below_more B0.out D2.out) (g :: a.D)).trans (CH3.out.mono fun k hk => List.mem_cons_of_mem _ hk))
  have CA := RA'.out _ B36.out
  rw [HK0.out] at k6
  go_wp2_with fail
  refine CA.mono ?_; rintro e w7 ⟨⟨vx, rfl, _⟩, b7⟩
  have A7 := jz (A6.out.below b7)
  have PX7 := jz (PX6.out.below b7)
  have B37 := jz (below_more B36.out b7)
  have RG7 := jz (RG.out.below b7)
  have R7 := jz (RX.out.below b7)
  clear b7 e6 o6 d6 k6 k6o k6n k6v CA RA'
  have e7 := A7.out.c0
  have o7 := A7.out.c1
  have d7 := A7.out.c2
  have k7n := PX7.out.c2
  have F : Hid (SOutH w w7 a S K D g (.returned (.int .i64 0))) := jz (sout_fin H3.out.1 RM3.out HDD.out.2 H3.out.2 CHW.out HIX.out HFR.out (Chg.of_below B37.out [g]) (RM3.out.below B37.out))
  have j1 : (E == 1) = false := beq_eq_false_iff_ne.2 E1
  go_wp2_with fail
  go_ret
  exact F.out
 case wears pl v h1 h2 h3 h4 h5 h6 h7 h8 h9 =>
  have hd : x.d = 1 := HK0.out
  have hi0 := HI0.out
  rw [hd] at h1
  have hpl : pl = plA X r S.ct.ints x.nn := h1
  have N3 : Hid (pl.e ≠ 3) := jz (plan_three h1)
  have AN := jz (aim_alloc_no (X := X) (r := r) (n := x.nn) (cs := S.ct.ints))
  have A0 := jz (fun q => aim_alloc (X := X) (l := l) (r := r) (N := a.N) (n := x.nn) (cs := S.ct.ints) hi0.len.1 hi0.hc.snd hi0.hc.ok HB.out q)
  have OD : Hid (pl.data = [] /\ (pl.e ≠ 0 -> pl.off = 0)) := jz (by
   rw [hpl]
   unfold plA plNo
   split
   . exact ⟨rfl, fun _ => rfl⟩
   . split
     . exact ⟨rfl, fun q => absurd rfl q⟩
     . exact ⟨rfl, fun _ => rfl⟩)
  rw [<- hpl] at AN A0
  have hAE := AN.out.1
  have hdat := OD.out.1
  have hXl : X.length <= 1000 := by have := HM0.out.len.2.1; omega
  have RA := fun (w' : World) (hb : Below w3.heap.size w3 w') => ral_is X x.nn S.ct.ints (.slice q1 X.length c1) (.slice q2 S.ct.ints.length c2) w' (ru_below OW3.out.ru hb) hXl hi0.hc.ok (ri_below OI3.out.ri hb)
  obtain ⟨E, hE⟩ : ∃ E, (alR X x.nn S.ct.ints).2.2 = E := ⟨_, rfl⟩
  obtain ⟨O, hO⟩ : ∃ O, (alR X x.nn S.ct.ints).2.1 = O := ⟨_, rfl⟩
  rw [hE] at hAE AN
  rw [hO] at A0
  have RA' := jz RA
  rw [hE, hO] at RA'
  clear RA hXl
  have HIX : Hid (HI a S' (K + 1) X r) := jz h6
  have HFR : Hid ((Free S.s -> S.worn = false -> Free S'.s /\ S'.worn = false) /\ (S'.wf = S.wf \/ ¬ Free S.s)) := jz ⟨fun F => absurd F h9, .inr h9⟩
  obtain rfl : bw = false := by rw [<- HBW.out]; exact h5
  obtain rfl : E = 0 := by rw [<- hAE]; exact h4.2.1
  have C5 := jz (fun w' (hb : Below w3.heap.size w3 w') => hworn_is (H3.out.1.below hb) HIX.out.live HIX.out.hc.lg.r1)
  rw [HZ.out, h8] at C5
  have h3' := h3
  subst h2
  clear h1 h3 h4 h5 h6 h7 h8 h9 hdat hi0 hd hpl hAE hE hO A0 AN
  have hv1 := ra_one h3'.ra
  obtain ⟨W4, hW4, hst4, HA4⟩ := an_boxed w3 3 0 hv1
  have OV4 := jz (h3'.below HA4.out.2)
  have A4 := jz HA4.out.1
  have B4 := jz HA4.out.2
  obtain ⟨qv, cv, hvv, _⟩ := ra_shape h3'.ra
  obtain ⟨nv, hnv⟩ : ∃ n, List.length ([] : List Int) = n := ⟨_, rfl⟩
  rw [hnv] at hvv
  subst hvv
  have la4 := A4.out.load
  have ce4 := A4.out.c0
  have SA := jz (rsame_is (w := W4) (e := 3) (o := 0) (e' := 3) (o' := 0) (v' := .slice none 0 0) (l' := []) OV4.out.ra (own_nil_by 0 W4).ra)
  rw [show decide ((3 : Int) = 3 /\ (0 : Int) = 0 /\ ([] : List Int) = []) = true by decide] at SA
  have RM4 := jz (RM3.out.below B4.out)
  have HS4 : Hid (w3.heap.size < W4.heap.size /\ w.heap.size < w3.heap.size) := jz ⟨A4.out.lt, by have := HN0.out.1; have := D2.out.size; have := CH3.out.size; omega⟩
  go_wp2_with fail
  refine (SA.out).mono ?_; rintro e w5 ⟨rfl, b5⟩
  have B5 := jz b5
  have RM5 := jz (RM4.out.below b5)
  have CL := jz (rclone_is _ RM5.out)
  clear b5 la4 ce4 SA hv1
  go_wp2_with fail
  refine (CL.out).mono ?_; rintro e w6 ⟨⟨xw, rfl, hxw, hxw2, hRx⟩, b6⟩
  have RX := jz hRx
  have RG := jz (RM5.out.more b6 hxw hxw2)
  have BB := jz (below_more B5.out b6)
  have A6 := jz ((A4.out.below BB.out))
  have PX6 := jz (((PX3.out.below B4.out).below BB.out))
  have HXW : Hid (w3.heap.size < xw /\ xw ≠ g) := jz (by have := B5.out.size; have := HS4.out; have := HN0.out; omega)
  have B36 := jz (below_more B4.out BB.out)
  clear hRx hxw hxw2 b6 CL
  have e6 := A6.out.c0
  have o6 := A6.out.c1
  have d6 := A6.out.c2
  have k6 := PX6.out.c0
  have k6o := PX6.out.c1
  have k6n := PX6.out.c2
  have k6v := PX6.out.c4
  rw [HXv.out] at k6v
  have CHW := jz ((Chg.of_below (below_more B0.out D2.out) (g :: a.D)).trans (CH3.out.mono fun k hk => List.mem_cons_of_mem _ hk))
  have CA := RA'.out _ B36.out
  rw [HK0.out] at k6
  go_wp2_with fail
  refine CA.mono ?_; rintro e w7 ⟨⟨vx, rfl, _⟩, b7⟩
  have A7 := jz (A6.out.below b7)
  have PX7 := jz (PX6.out.below b7)
  have B37 := jz (below_more B36.out b7)
  have RG7 := jz (RG.out.below b7)
  have R7 := jz (RX.out.below b7)
  clear b7 e6 o6 d6 k6 k6o k6n k6v CA RA'
  have e7 := A7.out.c0
  have o7 := A7.out.c1
  have d7 := A7.out.c2
  have k7n := PX7.out.c2
  have F : Hid (SOutH w w7 a S K D g (.returned (.int .i64 0))) := jz (sout_fin H3.out.1 RM3.out HDD.out.2 H3.out.2 CHW.out HIX.out HFR.out (Chg.of_below B37.out [g]) (RM3.out.below B37.out))
  go_wp2_with fail
  refine (C5.out _ B37.out).mono ?_; rintro e w8 ⟨rfl, rfl⟩
  go_wp2_with fail
  go_ret
  exact F.out
theorem step_is {w : World} {a : Ha} {S : Hs} {K : Nat} {X : List Int} {r : Nat} {D : List Nat} {g : Nat} {l : List Bk} (x : Px) (hp : Hp w a S) (hi : HI a S K X r) (hK : K < 1000) (hco : S.s.comes = false) (hm : Rm w D g X l (r : Int)) (hD : ∀ k ∈ a.D, k ∈ D) (hg : g ∉ a.D) (hx : PxOk w x) (hxf : x.bl = [] \/ ∀ k, x.v.ownBlock = some k -> k ∉ a.D) :
 Calls Tryz.prog 17 #[.pointer (some ⟨a.z, 0, none⟩), .pointer (some ⟨g, 0, none⟩), .agg (pxc x)] w fun e w' => SOutH w w' a S K D g e := by
 by_cases c1 : x.d = 1
 . exact step_alloc x hp hi hK hco hm hD hg hx hxf c1
 by_cases c2 : x.d = 2
 . exact step_free x hp hi hK hco hm hD hg hx hxf c2
 by_cases c3 : x.d = 3
 . exact (step_read x hp hi hK hco hm hD hg hx hxf c3).mono fun _ _ h => h.1
 by_cases c4 : x.d = 4
 . exact step_write x hp hi hK hco hm hD hg hx hxf c4
 by_cases c5 : x.d = 5
 . exact step_root x hp hi hK hco hm hD hg hx hxf c5
 by_cases c6 : x.d = 6
 . exact (step_get x hp hi hK hco hm hD hg hx hxf c6).mono fun _ _ h => h.1
 exact step_else x hp hi hK hco hm hD hg hx hxf (by omega)
structure HRun (w0 wi : World) (a : Ha) (g K : Nat) (fr : Bool) (S : Hs) (X : List Int) (r : Nat) (lb : List Bk) : Prop where
 hp : Hp wi a S
 hi : HI a S K X r
 co : S.s.comes = false
 fr : fr = true -> Free S.s /\ S.worn = false
 rm : Rm wi (g :: a.D) g X lb (r : Int)
 b : Below w0.heap.size w0 wi
 lo : ∀ k ∈ g :: a.D, w0.heap.size <= k
 hg : g ∉ a.D
theorem HRun.below {w0 wi w' : World} {a : Ha} {g K : Nat} {fr : Bool} {S : Hs} {X : List Int} {r : Nat} {lb : List Bk} (h : HRun w0 wi a g K fr S X r lb) (hb : Below wi.heap.size wi w') : HRun w0 w' a g K fr S X r lb :=
 ⟨h.hp.below hb, h.hi, h.co, h.fr, h.rm.below hb, below_more h.b hb, h.lo, h.hg⟩
theorem HRun.far {w0 wi : World} {a : Ha} {g K : Nat} {fr : Bool} {S : Hs} {X : List Int} {r : Nat} {lb : List Bk} {x : Px} (h : HRun w0 wi a g K fr S X r lb) (hx : x.Wf w0) : x.bl = [] \/ ∀ k, x.v.ownBlock = some k -> k ∉ a.D := by
 rcases ra_low hx.rv with q | q
 . exact .inl q
 . refine .inr fun k hk m => ?_
   have h1 := q k hk
   have h2 := h.lo k (List.mem_cons_of_mem _ m)
   omega
theorem px_ok {W w : World} {x : Px} (h : x.Wf W) (hb : Below W.heap.size W w) (hl : x.bl.length <= 100000) : PxOk w x := ⟨ra_below h.rv hb, hl, i64_wf h.wo, i64_wf h.wn⟩
theorem HRun.step {w0 wi : World} {a : Ha} {g K : Nat} {fr : Bool} {S : Hs} {X : List Int} {r : Nat} {lb : List Bk} (x : Px) (h : HRun w0 wi a g K fr S X r lb) (hK : K < 1000) (hx : x.Wf w0) (hl : x.bl.length <= 100000) :
 Calls Tryz.prog 17 #[.pointer (some ⟨a.z, 0, none⟩), .pointer (some ⟨g, 0, none⟩), .agg (pxc x)] wi fun e w' => e = .returned (.int .i64 0) /\ Chg (g :: a.D) wi w' /\ ∃ S' X' r' lb', HRun w0 w' a g (K + 1) fr S' X' r' lb' /\ S'.s.la = S.s.la /\ S'.s.n = S.s.n /\ (S'.wf = S.wf \/ ¬ Free S.s) := by
 refine (step_is x h.hp h.hi hK h.co h.rm (fun k hk => List.mem_cons_of_mem _ hk) h.hg (px_ok hx h.b hl) (h.far hx)).mono ?_
 . rintro e w' ⟨rfl, S', X', l', r', g1, g2, g3, g4, g5, g6, g7, g8, g9⟩
   refine ⟨rfl, g7, S', X', r', l', ⟨g1, g2, g4, fun q => ?_, g6, g7.below h.b h.b.size h.lo, h.lo, h.hg⟩, g3, g5, g9⟩
   obtain ⟨f1, f2⟩ := h.fr q
   exact g8 f1 f2
theorem heavy21b {W0 w : World} (l : List Px) (lim : List Int) (v u : Value) (hv : RA (opE W0) w v l) (hu : RI w u lim) :
 Calls Tryz.prog 12 #[v, u] w fun e w' => (∃ r : Nat, e = .returned (.int .i64 (r : Int)) /\ r <= 81 /\ (r = 0 -> Light l lim)) /\ Below w.heap.size w w' := by
 have HV := jz hv
 obtain ⟨p, cap, rfl, h1, h2⟩ := ra_shape hv
 obtain ⟨p2, cap2, rfl, h3, h4, _⟩ := hu
 unfold maxLen at h2 h4
 by_cases c2 : 200 < lim.length
 . have i2 : (lim.length : Int) > 200 := by omega
   clear hv h1 h2 h3 h4 c2
   generalize lim.length = L2 at *
   generalize l.length = L at *
   go_enter Tryz.func12, Tryz.ntmps12
   go_wp2_with fail
   go_ret
   exact ⟨⟨1, rfl, by decide, fun h => by cases h⟩, Below.refl _ _⟩
 have i2 : ¬ (lim.length : Int) > 200 := by omega
 have HL2 : Hid (lim.length <= 200) := jz (by omega)
 clear hv h1 h2 h3 h4 c2
 generalize hm : lim.length = L2 at *
 have HM := jz hm
 clear hm
 obtain ⟨L, hL⟩ : ∃ L, l.length = L := ⟨_, rfl⟩
 have HLL := jz hL
 rw [hL]
 clear hL
 go_enter Tryz.func12, Tryz.ntmps12
 go_wp2
 go_loopw [12] (fun i wr => ∃ k : Nat, k <= L /\ i = .int .i64 k /\ Hid (Below w.heap.size w wr /\ k <= 80 /\ ∀ j, j < k -> (l.getD j default).bl.length <= 500)) (fun i _ => L - (intOf i).toNat)
 case atStart => exact ⟨0, Nat.zero_le _, rfl, jz ⟨Below.refl _ _, by omega, fun j hj => by omega⟩⟩
 case round =>
  obtain ⟨k, hk, rfl, H⟩ := hrel
  by_cases hlt : k < L
  . obtain ⟨b, off, hpp, hb, hx⟩ := px_at (ra_below HV.out H.out.1) (by rw [HLL.out]; omega)
    subst hpp
    obtain ⟨hld, hwf⟩ := hx k (by rw [HLL.out]; exact hlt)
    have HX := jz (show ∀ j, j < k + 1 -> ((l.getD k default).bl.length <= 500 -> (l.getD j default).bl.length <= 500) from fun j hj hh => by
     by_cases e : j = k
     . subst e; exact hh
     . exact H.out.2.2 j (by omega))
    have hvl : ∃ q c, (l.getD k default).v = .slice q (l.getD k default).bl.length c := by
     obtain ⟨q, c, e, _⟩ := ra_shape hwf.rv
     exact ⟨q, c, e⟩
    have hone := hwf.one
    generalize l.getD k default = x at *
    obtain ⟨W1, hW1, hst, HB⟩ := px_boxed wr x hone
    have c4 := HB.out.1.c4
    obtain ⟨q, c, hvv⟩ := hvl
    rw [hvv] at c4
    have B1 := jz (below_more H.out.1 HB.out.2)
    have HK := jz (And.intro hlt H.out.2.1)
    have i0 : (0 : Int) <= (k : Int) := by omega
    have i1 : (k : Int) < (L : Int) := by omega
    have i3 : ¬ (k : Int) < 0 := by omega
    have i4 : IntKind.i64.wrap ((k : Int) + 1) = ((k + 1 : Nat) : Int) := by rw [show (k : Int) + 1 = ((k + 1 : Nat) : Int) by omega]; exact i64_nat _ (by have := HK.out; omega)
    generalize hbl : x.bl.length = n at *
    by_cases c8 : 80 <= k
    . have i5 : (k : Int) >= 80 := by omega
      clear hx hb hk hlt hwf hone hvv hbl H HX c8
      go_wp2
      go_ret
      exact ⟨⟨k + 1, rfl, by have := HK.out; omega, fun h => by omega⟩, B1.out⟩
    have i5 : ¬ (k : Int) >= 80 := by omega
    have i5' : ¬ 80 <= k := c8
    by_cases c5 : 500 < n
    . have i6 : (n : Int) > 500 := by omega
      have i6' : 500 < n := c5
      clear hx hb hk hlt hwf hone hvv hbl H HX c8 c5
      go_wp2
      go_ret
      exact ⟨⟨k + 1, rfl, by have := HK.out; omega, fun h => by omega⟩, B1.out⟩
    . have i6 : ¬ (n : Int) > 500 := by omega
      have i6' : ¬ 500 < n := c5
      have HN : Hid (Below w.heap.size w W1 /\ k + 1 <= 80 /\ ∀ j, j < k + 1 -> (l.getD j default).bl.length <= 500) := jz ⟨B1.out, by omega, fun j hj => HX.out j hj (by omega)⟩
      clear hx hb hk hlt hwf hone hvv hbl H HX c8 c5
      go_wp2
      go_roundw
      case rel => exact ⟨k + 1, by have := HK.out; omega, by go_num, HN⟩
      case measure => have := HK.out; simp [intOf]; omega
  . obtain rfl : k = L := by omega
    have HF : Hid (Light l lim /\ Below w.heap.size w wr) := jz ⟨⟨by rw [HM.out]; exact HL2.out, by rw [HLL.out]; exact H.out.2.1, fun j hj => H.out.2.2 j (by rw [HLL.out] at hj; exact hj)⟩, H.out.1⟩
    clear H
    go_wp2
    go_ret
    exact ⟨⟨0, rfl, by decide, fun _ => HF.out.1⟩, HF.out.2⟩
theorem Hp.dlt {w : World} {a : Ha} {S : Hs} (h : Hp w a S) : ∀ k ∈ a.D, k < w.heap.size := by
 intro k hk
 simp only [Ha.D, List.mem_cons, List.not_mem_nil, or_false] at hk
 rcases hk with rfl | rfl | rfl | rfl
 . exact h.hb.lt
 . exact h.hb.lg.nm.lt
 . exact Whole.lt h.hb.lg.tq
 . exact h.cq.ltg
theorem hrun_new {w0 w6 w7 : World} {a : Ha} {g N : Nat} {S : Hs} {lb : List Bk} {fr : Bool} (hp : Hp w6 a S) (hi : HI a S 3 (firstL (8 * N : Nat)) 0) (hco : S.s.comes = false) (hfr : fr = true -> Free S.s /\ S.worn = false) (hlo : ∀ k ∈ a.D, w0.heap.size <= k) (h0 : w0.heap.size <= w6.heap.size) (hg : w6.heap.size <= g) (hb : Below w6.heap.size w6 w7) (hB : Below w0.heap.size w0 w6)
 (hR : ∀ D : List Nat, (∀ k ∈ D, k < w6.heap.size) -> Rm w7 (g :: D) g (firstL (8 * N : Nat)) lb 0) : HRun w0 w7 a g 3 fr S (firstL (8 * N : Nat)) 0 lb := by
 refine ⟨hp.below hb, hi, hco, hfr, hR a.D hp.dlt, below_more hB hb, fun k hk => ?_, fun q => by have := hp.dlt g q; omega⟩
 rcases List.mem_cons.1 hk with rfl | hk
 . omega
 . exact hlo k hk
theorem hdget_is {w : World} {a : Ha} {S : Hs} {K : Nat} {X : List Int} {r : Nat} (hp : Hp w a S) (hi : HI a S K X r) (hK : K < 1000) (hco : S.s.comes = false) :
 Calls Tryz.prog 31 #[.pointer (some ⟨a.z, 0, none⟩), .agg (pxc ⟨6, 0, 0, 0, .slice none 0 0, []⟩)] w fun e w' => (∃ v, e = .returned (.agg (anc 0 (r : Int) v)) /\ OwnA byE w.heap.size w' v []) /\ Below w.heap.size w w' := by
 refine (hdo_is ⟨6, 0, 0, 0, .slice none 0 0, []⟩ hp hi hK (px_nil w 6 0 0 (by decide) (by decide))).mono ?_
 intro e w' ho
 obtain ⟨S', g1, g2, _, _, _, h⟩ := do_calm hi hK hco ho
 cases h with
 | goes pl v h1 h2 h3 h4 h5 h6 h7 h8 h9 =>
   have hpl : pl = plG X r := h1
   subst hpl
   have hS : S' = S := h9 (.inl rfl)
   rw [hS] at g1
   exact ⟨⟨v, h2, h3⟩, below_same hp g1 g2⟩
 | worn pl v h1 h2 h3 h4 h5 h6 =>
   have hpl : pl = plG X r := h1
   rw [hpl] at h4; cases h4
 | wears pl v h1 h2 h3 h4 h5 h6 h7 h8 h9 =>
   have hpl : pl = plG X r := h1
   rw [hpl] at h4; cases h4.1
theorem hdread_is {w : World} {a : Ha} {S : Hs} {K : Nat} {X : List Int} {r : Nat} (o n : Int) (hp : Hp w a S) (hi : HI a S K X r) (hK : K < 1000) (hco : S.s.comes = false) (ho : -9223372036854775808 <= o /\ o <= 9223372036854775807) (hn : -9223372036854775808 <= n /\ n <= 9223372036854775807) :
 Calls Tryz.prog 31 #[.pointer (some ⟨a.z, 0, none⟩), .agg (pxc ⟨3, o, n, 0, .slice none 0 0, []⟩)] w fun e w' => (∃ v, e = .returned (.agg (anc (refF X o n) 0 v)) /\ OwnA byE w.heap.size w' v (rdR X o n)) /\ Below w.heap.size w w' := by
 refine (hdo_is ⟨3, o, n, 0, .slice none 0 0, []⟩ hp hi hK (px_nil w 3 o n ho hn)).mono ?_
 intro e w' ho
 obtain ⟨S', g1, g2, _, _, _, h⟩ := do_calm hi hK hco ho
 cases h with
 | goes pl v h1 h2 h3 h4 h5 h6 h7 h8 h9 =>
   have hpl : pl = plD X r o n := h1
   subst hpl
   have hS : S' = S := h9 (.inl rfl)
   rw [hS] at g1
   exact ⟨⟨v, h2, h3⟩, below_same hp g1 g2⟩
 | worn pl v h1 h2 h3 h4 h5 h6 =>
   have hpl : pl = plD X r o n := h1
   rw [hpl] at h4; cases h4
 | wears pl v h1 h2 h3 h4 h5 h6 h7 h8 h9 =>
   have hpl : pl = plD X r o n := h1
   rw [hpl] at h4; cases h4.1
theorem ref_used {X : List Int} {l : List Bk} (hB : blkF X = some l) {b : Bk} (hb : b ∈ l) (hu : b.u = true) {n : Int} (h0 : 0 <= n) (h1 : n <= 448) (h2 : n <= (b.s - 1) * 8) : refF X (offB b.a) n = 0 := by
 have hm := blkF_some hB
 have ho := (offB_in hm hb).2.2
 unfold refF
 rw [hB]
 exact if_pos (inL_yes.2 ⟨⟨h0, h1⟩, b, hb, hu, Int.le_refl _, by omega⟩)
theorem same_get {w : World} {v : Value} {r : Int} (hv : RA byE w v []) : Calls Tryz.prog 41 #[.agg (anc 0 r v), .agg (anc 0 r (.slice none 0 0))] w fun f w' => f = .returned (.bool true) /\ Below w.heap.size w w' := by
 have h := rsame_is (w := w) (e := 0) (o := r) (e' := 0) (o' := r) (l' := []) hv (own_nil_by 0 _).ra
 rwa [show decide ((0 : Int) = 0 /\ r = r /\ ([] : List Int) = []) = true by simp] at h
theorem blk_ext {l l' : List Bk} (hl : l.length = l'.length) (h : ∀ j, j < l.length -> l.getD j default = l'.getD j default) : l = l' := by
 refine List.ext_getElem hl fun j h1 h2 => ?_
 have := h j h1
 rwa [List.getD_eq_getElem?_getD, List.getD_eq_getElem?_getD, List.getElem?_eq_getElem h1, List.getElem?_eq_getElem h2] at this
theorem blks_not {v u : Value} {l l' : List Bk} {w : World} (hv : RA blkE w v l) (hu : RA blkE w u l') (hne : l ≠ l') : Calls Tryz.prog 53 #[v, u] w fun e w' => e = .returned (.bool false) /\ ∃ n, w' = w.drewN n := by
 obtain ⟨p, c, rfl, hlc, hcm⟩ := ra_shape hv
 obtain ⟨q, d, rfl, _, _⟩ := ra_shape hu
 by_cases hlen : l.length = l'.length
 . have HS : Hid (∀ wr, (∃ n, wr = w.drewN n) -> ∀ j, j < l.length -> ∃ b off b' off', p = some ⟨b, off, none⟩ /\ q = some ⟨b', off', none⟩ /\ (∀ m, (blkLoad (.pointer (some ⟨b, off + j * 3, none⟩))).run Tryz.prog (wr.drewN m) = .ok (.agg (bc (l.getD j default))) (wr.drewN m)) /\ ∀ m, (blkLoad (.pointer (some ⟨b', off' + j * 3, none⟩))).run Tryz.prog (wr.drewN m) = .ok (.agg (bc (l'.getD j default))) (wr.drewN m)) := jz fun wr hwr j hj => by
    obtain ⟨n, rfl⟩ := hwr
    obtain ⟨b, off, rfl, _, _⟩ := blk_at hv (by omega)
    obtain ⟨b', off', rfl, _, _⟩ := blk_at hu (by omega)
    refine ⟨b, off, b', off', rfl, rfl, fun m => ?_, fun m => ?_⟩
    . obtain ⟨_, _, e, _, hx⟩ := blk_at (w := (w.drewN n).drewN m) hv (by omega)
      cases e
      exact (hx j hj).1
    . obtain ⟨_, _, e, _, hx⟩ := blk_at (w := (w.drewN n).drewN m) hu (by omega)
      cases e
      exact (hx j (by omega)).1
   unfold maxLen at hcm
   have HL : Hid (l.length <= 9223372036854775807) := jz (by omega)
   have HE : Hid ((∀ j, j < l.length -> l.getD j default = l'.getD j default) -> False) := jz fun h => hne (blk_ext hlen h)
   rw [<- hlen]
   clear hv hu hlc hcm hne hlen
   go_enter Tryz.func53, Tryz.ntmps53
   go_wp2
   go_loopw [13] (fun i wr => ∃ k : Nat, k <= l.length /\ i = .int .i64 k /\ Hid ((∃ n, wr = w.drewN n) /\ ∀ j, j < k -> l.getD j default = l'.getD j default)) (fun i _ => l.length - (intOf i).toNat)
   case atStart => exact ⟨0, Nat.zero_le _, rfl, jz ⟨⟨0, rfl⟩, fun j hj => absurd hj (Nat.not_lt_zero _)⟩⟩
   case round =>
    obtain ⟨k, hk, rfl, HD⟩ := hrel
    by_cases hlt : k < l.length
    . obtain ⟨b, off, b', off', rfl, rfl, d1, d2⟩ := HS.out wr HD.out.1 k hlt
      have j0 : IntKind.i64.wrap ((k : Int) + 1) = ((k + 1 : Nat) : Int) := by rw [show (k : Int) + 1 = ((k + 1 : Nat) : Int) by omega]; exact i64_nat _ (by have := HL.out; omega)
      have i0 : (0 : Int) <= (k : Int) := by omega
      have i1 : (k : Int) < (l.length : Int) := by omega
      have i2 : ¬ (k : Int) < 0 := by omega
      by_cases hyy : l.getD k default = l'.getD k default
      . have HN : Hid (∀ j, j < k + 1 -> l.getD j default = l'.getD j default) := jz fun j hj => by
         by_cases e : j = k
         . subst e; exact hyy
         . exact HD.out.2 j (by omega)
        rw [<- hyy] at d2
        clear HS HE hyy
        generalize l.getD k default = y at d1 d2
        generalize l.length = L at *
        have hy := eqB_self y
        go_wp2_with fail
        go_quiet (fail)
        go_wp2
        exact ⟨⟨k + 1, by omega, by go_num, jz ⟨by obtain ⟨n, e⟩ := HD.out.1; subst e; exact ⟨_, World.drewN_drewN ..⟩, HN.out⟩⟩, by simp [intOf]; omega⟩
      . have hy : eqB (l.getD k default) (l'.getD k default) = false := by
         rw [<- Bool.not_eq_true]
         exact fun h => hyy (eqB_iff.1 h)
        have HW : Hid (∃ n, wr = w.drewN n) := jz HD.out.1
        clear HS HE hyy HD
        generalize l.getD k default = y at *
        generalize l'.getD k default = y' at *
        generalize l.length = L at *
        go_wp2_with fail
        go_quiet (fail)
        go_wp2
        go_ret
        exact ⟨rfl, by obtain ⟨n, e⟩ := HW.out; subst e; exact ⟨_, World.drewN_drewN ..⟩⟩
    . obtain rfl : k = l.length := by omega
      exact (HE.out HD.out.2).elim
 . have h1 : ¬ (l.length : Int) = (l'.length : Int) := by omega
   have h2 : ((l.length : Int) == (l'.length : Int)) = false := beq_eq_false_iff_ne.2 h1
   have h3 : ((l.length : Int) != (l'.length : Int)) = true := by simpa using h1
   clear hv hu hlc hcm hne
   generalize l.length = L at *
   generalize l'.length = L' at *
   go_enter Tryz.func53, Tryz.ntmps53
   go_wp2
   go_ret
   exact ⟨rfl, 0, rfl⟩
def SameC (X X' : List Int) (l l' : List Bk) (r r' : Int) : Prop := l = l' /\ r = r' /\ ∀ b ∈ l, b.u = true -> rdR X (offB b.a) (min 448 ((b.s - 1) * 8)) = rdR X' (offB b.a) (min 448 ((b.s - 1) * 8))
theorem SameC.refl (X : List Int) (l : List Bk) (r : Int) : SameC X X l l r r := ⟨rfl, rfl, fun _ _ _ => rfl⟩
theorem same_root {w : World} {v : Value} {r r' : Int} (hv : RA byE w v []) (h : r ≠ r') : Calls Tryz.prog 41 #[.agg (anc 0 r v), .agg (anc 0 r' (.slice none 0 0))] w fun f w' => f = .returned (.bool false) /\ Below w.heap.size w w' := by
 have h' := rsame_is (w := w) (e := 0) (o := r) (e' := 0) (o' := r') (l' := []) hv (own_nil_by 0 _).ra
 rwa [show decide ((0 : Int) = 0 /\ r = r' /\ ([] : List Int) = []) = false by simp [h]] at h'
theorem says_like {w : World} {a : Ha} {S : Hs} {K : Nat} {X X' : List Int} {r : Nat} {D : List Nat} {g : Nat} {l : List Bk} (hp : Hp w a S) (hi : HI a S K X r) (hK : K < 1000) (hco : S.s.comes = false) (hB : blkF X = some l) (hm : Rm w D g X' l (r : Int)) :
 Calls Tryz.prog 18 #[.pointer (some ⟨a.z, 0, none⟩), .pointer (some ⟨g, 0, none⟩)] w fun e w' => (∃ v : Int, e = .returned (.int .i64 v) /\ (v = 0 ↔ SameC X X' l l (r : Int) (r : Int))) /\ Below w.heap.size w w' := by
 have HP := jz hp
 have HIi := jz hi
 have HM := jz hm
 have HL : Hid (l.length <= 256 /\ X.length <= 512 /\ mayL X.length l = true) := jz ⟨(blkF_len hB).1, (blkF_len hB).2, blkF_some hB⟩
 have HB := jz hB
 have HB' := jz hm.hB
 have C1 := jz (fun w' (hb : Below w.heap.size w w') => hWords_is (hp.below hb).hb hi.num hi.hc.lg hi.live hi.hc.has)
 have CG := jz (fun w' (hb : Below w.heap.size w w') => hdget_is (hp.below hb) hi hK hco)
 have CR := jz (fun w' (hb : Below w.heap.size w w') o n ho hn => hdread_is o n (hp.below hb) hi hK hco ho hn)
 have CM := jz (fun w' (hb : Below w.heap.size w w') o n ho hn => rmread_is o n w' (hm.below hb) ho hn)
 have CB := jz (fun w' (hb : Below w.heap.size w w') => rmblk_is w' (hm.below hb))
 have hg1 : ∀ w', Below w.heap.size w w' -> w'.cell? ⟨g, 1, none⟩ = some (.int .i64 (r : Int)) := fun w' hb => by
  obtain ⟨mv, mW, _⟩ := (hm.below hb).rows
  rw [Whole.at_ mW]; rfl
 have HOK := jz hi.hc.ok
 clear hp hi hK hco hm hB
 obtain ⟨z, hz⟩ : ∃ z, a.z = z := ⟨_, rfl⟩
 rw [hz] at C1 CG CR ⊢
 clear hz
 go_enter Tryz.func18, Tryz.ntmps18
 go_wp2_with fail
 refine (C1.out _ (Below.refl _ _)).mono ?_; rintro e w1 ⟨⟨v1, rfl, o1⟩, b1⟩
 have B1 := jz b1
 have C2 := jz (blocks_is X v1 (some l) w1 o1.ru (by have := HL.out; omega) HOK.out HB.out)
 obtain ⟨q1, c1, rfl⟩ := o1.shape
 clear o1 b1
 go_wp2_with fail
 refine (C2.out).mono ?_; rintro e w2 ⟨⟨v2, rfl, o2⟩, b2⟩
 have o2' : OwnA blkE w1.heap.size w2 v2 l := o2
 have O2 := jz o2'.ra
 have B2 := jz (below_more B1.out b2)
 obtain ⟨q2, c2, rfl, _⟩ := ra_shape o2'.ra
 clear o2 o2' b2 C1 C2
 have bd : Below w2.heap.size w2 w2.drew := (Below.refl _ _).drew
 have cg7 : ∀ w', Below w2.heap.size w2 w' -> w'.cell? ⟨g, 1, none⟩ = some (.int .i64 (r : Int)) := fun w' hb => hg1 w' (below_more B2.out hb)
 go_wp2
 go_region_held3 (fun w' => Below w2.heap.size w2 w')
  (first | assumption | exact (Below.refl _ _).drew)
  (first
    | (go_at_call 54; refine (CB.out _ (below_more B2.out bd)).mono ?_; rintro e w3 ⟨⟨v3, rfl, o3⟩, b3⟩
       have O3 := jz o3.ra
       have B3 := jz (bd.trans b3)
       have B3' := B3.out
       clear o3 b3)
    | (go_at_call 53; refine (blks_same (ra_below O2.out B3.out) O3.out).mono ?_; rintro e w4 ⟨rfl, n4, rfl⟩
       have B4 := jz (below_drewN B3.out n4)
       have B4' := B4.out)
    | (go_at_call 31; refine (CG.out _ (below_more B2.out B4.out)).mono ?_; rintro e w5 ⟨⟨v5, rfl, o5⟩, b5⟩
       have O5 := jz o5.ra
       have B5 := jz (below_more B4.out b5)
       have B5' := B5.out
       clear o5 b5)
    | (go_at_call 41; refine (same_get O5.out).mono ?_; rintro e w6 ⟨rfl, b6⟩
       have B6 := jz (below_more B5.out b6)
       have B6' := B6.out
       clear b6))
 have HW : Hid (Below w.heap.size w w2 /\ Below w2.heap.size w2 w6) := jz ⟨B2.out, B6.out⟩
 clear B3' B4' B5' B6' cg7 hg1 bd
 go_wp2
 go_loopw [52] (fun i wr => ∃ k : Nat, k <= l.length /\ i = .int .i64 k /\ Hid (Below w2.heap.size w2 wr /\ ∀ j, j < k -> (l.getD j default).u = true -> rdR X (offB (l.getD j default).a) (min 448 (((l.getD j default).s - 1) * 8)) = rdR X' (offB (l.getD j default).a) (min 448 (((l.getD j default).s - 1) * 8)))) (fun i _ => l.length - (intOf i).toNat)
 case atStart => exact ⟨0, Nat.zero_le _, rfl, jz ⟨HW.out.2, fun j hj => absurd hj (Nat.not_lt_zero _)⟩⟩
 case round =>
  obtain ⟨k, hk, rfl, H2⟩ := hrel
  have H := jz H2.out.1
  have HJ := jz H2.out.2
  clear H2
  by_cases hlt : k < l.length
  . obtain ⟨bb, off, rfl, _, hx⟩ := blk_at (ra_below O2.out H.out) (by omega)
    obtain ⟨hld, _, _, _, hwf⟩ := hx k hlt
    have HK := jz hlt
    have HIN := jz (at_in HL.out.2.2 hlt)
    have HMB := jz (getD_mem (l := l) (k := k) hlt)
    have i0 : (0 : Int) <= (k : Int) := by omega
    have i1 : (k : Int) < (l.length : Int) := by omega
    have i3 : ¬ (k : Int) < 0 := by omega
    have i4 : IntKind.i64.wrap ((k : Int) + 1) = ((k + 1 : Nat) : Int) := by rw [show (k : Int) + 1 = ((k + 1 : Nat) : Int) by omega]; exact i64_nat _ (by have := HL.out; omega)
    clear hx hk hlt hwf
    obtain ⟨x, hxk⟩ : ∃ x, l.getD k default = x := ⟨_, rfl⟩
    rw [hxk] at hld HIN HMB
    have HXK := jz hxk
    clear hxk
    obtain ⟨W, hW, HV⟩ := blk_boxed wr x
    have c2 := HV.out.1.c2
    have BW := jz (below_more HW.out.1 (below_more H.out HV.out.2))
    cases hu : x.u with
    | false =>
      rw [hu] at c2
      have HN : Hid (Below w2.heap.size w2 W /\ ∀ j, j < k + 1 -> (l.getD j default).u = true -> rdR X (offB (l.getD j default).a) (min 448 (((l.getD j default).s - 1) * 8)) = rdR X' (offB (l.getD j default).a) (min 448 (((l.getD j default).s - 1) * 8))) := jz ⟨below_more H.out HV.out.2, fun j hj q => by
       by_cases e : j = k
       . subst e; rw [HXK.out, hu] at q; cases q
       . exact HJ.out j (by omega) q⟩
      clear hu
      go_wp2
      go_roundw
      case rel => exact ⟨k + 1, by have := HK.out; omega, by go_num, HN⟩
      case measure => have := HK.out; simp [intOf]; omega
    | true =>
      rw [hu] at c2
      have HU := jz hu
      clear hu
      have c1 := HV.out.1.c1
      have lb := HV.out.1.load
      have hin := HIN.out
      unfold MayB at hin
      have i5 : IntKind.i64.wrap (x.s - 1) = x.s - 1 := IntWalk.i64_in _ (by omega)
      have i6 : IntKind.i64.wrap ((x.s - 1) * 8) = (x.s - 1) * 8 := IntWalk.i64_in _ (by omega)
      obtain ⟨n, hn⟩ : ∃ n : Int, min 448 ((x.s - 1) * 8) = n := ⟨_, rfl⟩
      have hn0 : 0 <= n /\ n <= 448 /\ n <= (x.s - 1) * 8 := by omega
      have hR := ref_used HB.out HMB.out HU.out hn0.1 hn0.2.1 hn0.2.2
      have hR' := ref_used HB'.out HMB.out HU.out hn0.1 hn0.2.1 hn0.2.2
      have HNN := jz hn
      obtain ⟨o, ho⟩ : ∃ o, offB x.a = o := ⟨_, rfl⟩
      have CO := jz (fun w' => roff_is x o ho w')
      rw [ho] at hR hR'
      have HOO := jz ho
      have HO : Hid ((-9223372036854775808 <= o /\ o <= 9223372036854775807) /\ (-9223372036854775808 <= n /\ n <= 9223372036854775807)) := jz (by rw [<- ho]; unfold offB; split <;> omega)
      have HRr := jz hR
      have HRr' := jz hR'
      clear hR hR' hin
      go_wp2_with fail
      refine (CO.out _).mono ?_; rintro e w7 ⟨rfl, b7⟩
      have B7 := jz (below_more HV.out.2 b7)
      have BB7 := jz (below_more HW.out.1 (below_more H.out B7.out))
      have CD := jz (CR.out w7 BB7.out o n HO.out.1 HO.out.2)
      rw [HRr.out] at CD
      have V7 := jz (HV.out.1.below b7)
      clear b7 lb c1 c2
      go_wp2_with fail
      refine (CD.out).mono ?_; rintro e w8 ⟨⟨v8, rfl, o8⟩, b8⟩
      have hv1 := ra_one o8.ra
      obtain ⟨W9, hW9, hst9, HA9⟩ := an_boxed w8 0 0 hv1
      have B9 := jz (below_more B7.out (below_more b8 HA9.out.2))
      have BB9 := jz (below_more HW.out.1 (below_more H.out B9.out))
      have V9 := jz (V7.out.below (below_more b8 HA9.out.2))
      have O9 := jz (ra_below o8.ra HA9.out.2)
      obtain ⟨q8, c8, rfl, _⟩ := ra_shape o8.ra
      have lb9 := V9.out.load
      clear o8 b8 CD
      go_wp2_with fail
      refine (CO.out _).mono ?_; rintro e w10 ⟨rfl, b10⟩
      have B10 := jz (below_more B9.out b10)
      have BB10 := jz (below_more BB9.out b10)
      have CE := jz (CM.out w10 BB10.out o n HO.out.1 HO.out.2)
      rw [HRr'.out] at CE
      have A10 := jz (HA9.out.1.below b10)
      have O10 := jz (ra_below O9.out b10)
      clear b10 lb9
      go_wp2_with fail
      refine (CE.out).mono ?_; rintro e w11 ⟨⟨v11, rfl, o11⟩, b11⟩
      have B11 : Hid (Below w2.heap.size w2 w11) := jz (below_more H.out (below_more B10.out b11))
      have a0 := (A10.out.below b11).c0
      have a2 := (A10.out.below b11).c2
      have hs := run_strConv (ra_below O10.out b11)
      have hs' := run_strConv o11.ra
      have INJ : Hid ((strOfNums (rdR X o n)).toList = (strOfNums (rdR X' o n)).toList -> rdR X o n = rdR X' o n) := jz (strOf_inj (fun x hx => ra_ok O10.out x hx) (fun x hx => ra_ok o11.ra x hx))
      obtain ⟨q11, c11, rfl, _⟩ := ra_shape o11.ra
      by_cases hst : rdR X o n = rdR X' o n
      . have HN : Hid (∀ j, j < k + 1 -> (l.getD j default).u = true -> rdR X (offB (l.getD j default).a) (min 448 (((l.getD j default).s - 1) * 8)) = rdR X' (offB (l.getD j default).a) (min 448 (((l.getD j default).s - 1) * 8))) := jz fun j hj q => by
         by_cases e : j = k
         . subst e; rw [HXK.out, HOO.out, HNN.out]; exact hst
         . exact HJ.out j (by omega) q
        rw [<- hst] at hs' ⊢
        generalize strOfNums (rdR X o n) = st at *
        generalize (rdR X o n).length = nd at *
        clear o11 b11 CE hv1 hst INJ
        go_wp2
        go_roundw
        case rel => exact ⟨k + 1, by have := HK.out; omega, by go_num, jz ⟨B11.out, HN.out⟩⟩
        case measure => have := HK.out; simp [intOf]; omega
      . have hne : ¬ (strOfNums (rdR X o n)).toList = (strOfNums (rdR X' o n)).toList := fun q => hst (INJ.out q)
        have hn1 : decide ((strOfNums (rdR X o n)).toList = (strOfNums (rdR X' o n)).toList) = false := decide_eq_false hne
        have hn2 : ((strOfNums (rdR X o n)).toList == (strOfNums (rdR X' o n)).toList) = false := beq_eq_false_iff_ne.2 hne
        have NS : ¬ SameC X X' l l (r : Int) (r : Int) := fun q => hst (by have := q.2.2 x HMB.out HU.out; rw [HOO.out, HNN.out] at this; exact this)
        have F : Hid (¬ SameC X X' l l (r : Int) (r : Int) /\ Below w.heap.size w w11) := jz ⟨NS, below_more HW.out.1 B11.out⟩
        generalize strOfNums (rdR X o n) = st at *
        generalize strOfNums (rdR X' o n) = st' at *
        generalize (rdR X o n).length = nd at *
        generalize (rdR X' o n).length = nd' at *
        clear o11 b11 CE hv1 hst INJ NS
        go_wp2_with fail
        go_ret
        exact ⟨⟨_, rfl, ⟨fun q => absurd q (by decide), fun q => absurd q F.out.1⟩⟩, F.out.2⟩
  . obtain rfl : k = l.length := by omega
    have F : Hid (SameC X X' l l (r : Int) (r : Int) /\ Below w.heap.size w wr) := jz ⟨⟨rfl, rfl, fun b hb q => by
     obtain ⟨j, hj, rfl⟩ := List.getElem_of_mem hb
     have e : l.getD j default = l[j] := by rw [List.getD_eq_getElem?_getD, List.getElem?_eq_getElem hj]; rfl
     have := HJ.out j hj
     rw [e] at this
     exact this q⟩, below_more HW.out.1 H.out⟩
    clear H HJ hk hlt
    go_wp2_with fail
    go_ret
    exact ⟨⟨_, rfl, ⟨fun _ => F.out.1, fun _ => rfl⟩⟩, F.out.2⟩
theorem says_root {w : World} {a : Ha} {S : Hs} {K : Nat} {X X' : List Int} {r : Nat} {D : List Nat} {g : Nat} {l : List Bk} {r' : Int} (hp : Hp w a S) (hi : HI a S K X r) (hK : K < 1000) (hco : S.s.comes = false) (hB : blkF X = some l) (hm : Rm w D g X' l r') (hne : (r : Int) ≠ r') :
 Calls Tryz.prog 18 #[.pointer (some ⟨a.z, 0, none⟩), .pointer (some ⟨g, 0, none⟩)] w fun e w' => e = .returned (.int .i64 1) /\ Below w.heap.size w w' := by
 have HL : Hid (l.length <= 256 /\ X.length <= 512 /\ mayL X.length l = true) := jz ⟨(blkF_len hB).1, (blkF_len hB).2, blkF_some hB⟩
 have HB := jz hB
 have C1 := jz (fun w' (hb : Below w.heap.size w w') => hWords_is (hp.below hb).hb hi.num hi.hc.lg hi.live hi.hc.has)
 have CG := jz (fun w' (hb : Below w.heap.size w w') => hdget_is (hp.below hb) hi hK hco)
 have CB := jz (fun w' (hb : Below w.heap.size w w') => rmblk_is w' (hm.below hb))
 have hg1 : ∀ w', Below w.heap.size w w' -> w'.cell? ⟨g, 1, none⟩ = some (.int .i64 r') := fun w' hb => by
  obtain ⟨mv, mW, _⟩ := (hm.below hb).rows
  rw [Whole.at_ mW]; rfl
 have HOK := jz hi.hc.ok
 clear hp hi hK hco hm hB
 obtain ⟨z, hz⟩ : ∃ z, a.z = z := ⟨_, rfl⟩
 rw [hz] at C1 CG ⊢
 clear hz
 go_enter Tryz.func18, Tryz.ntmps18
 go_wp2_with fail
 refine (C1.out _ (Below.refl _ _)).mono ?_; rintro e w1 ⟨⟨v1, rfl, o1⟩, b1⟩
 have B1 := jz b1
 have C2 := jz (blocks_is X v1 (some l) w1 o1.ru (by have := HL.out; omega) HOK.out HB.out)
 obtain ⟨q1, c1, rfl⟩ := o1.shape
 clear o1 b1
 go_wp2_with fail
 refine (C2.out).mono ?_; rintro e w2 ⟨⟨v2, rfl, o2⟩, b2⟩
 have o2' : OwnA blkE w1.heap.size w2 v2 l := o2
 have O2 := jz o2'.ra
 have B2 := jz (below_more B1.out b2)
 obtain ⟨q2, c2, rfl, _⟩ := ra_shape o2'.ra
 clear o2 o2' b2 C1 C2
 have bd : Below w2.heap.size w2 w2.drew := (Below.refl _ _).drew
 have cg7 : ∀ w', Below w2.heap.size w2 w' -> w'.cell? ⟨g, 1, none⟩ = some (.int .i64 r') := fun w' hb => hg1 w' (below_more B2.out hb)
 go_wp2
 go_region_held3 (fun w' => Below w2.heap.size w2 w')
  (first | assumption | exact (Below.refl _ _).drew)
  (first
    | (go_at_call 54; refine (CB.out _ (below_more B2.out bd)).mono ?_; rintro e w3 ⟨⟨v3, rfl, o3⟩, b3⟩
       have O3 := jz o3.ra
       have B3 := jz (bd.trans b3)
       have B3' := B3.out
       clear o3 b3)
    | (go_at_call 53; refine (blks_same (ra_below O2.out B3.out) O3.out).mono ?_; rintro e w4 ⟨rfl, n4, rfl⟩
       have B4 := jz (below_drewN B3.out n4)
       have B4' := B4.out)
    | (go_at_call 31; refine (CG.out _ (below_more B2.out B4.out)).mono ?_; rintro e w5 ⟨⟨v5, rfl, o5⟩, b5⟩
       have O5 := jz o5.ra
       have B5 := jz (below_more B4.out b5)
       have B5' := B5.out
       clear o5 b5)
    | (go_at_call 41; refine (same_root O5.out hne).mono ?_; rintro e w6 ⟨rfl, b6⟩
       have B6 := jz (below_more B5.out b6)
       have B6' := B6.out
       clear b6))
 have F := jz (below_more B2.out B6.out)
 go_wp2_with fail
 go_ret
 exact ⟨rfl, F.out⟩
theorem says_blks {w : World} {a : Ha} {S : Hs} {K : Nat} {X X' : List Int} {r : Nat} {D : List Nat} {g : Nat} {l l' : List Bk} {r' : Int} (hp : Hp w a S) (hi : HI a S K X r) (_ : K < 1000) (_ : S.s.comes = false) (hB : blkF X = some l) (hm : Rm w D g X' l' r') (hne : l ≠ l') :
 Calls Tryz.prog 18 #[.pointer (some ⟨a.z, 0, none⟩), .pointer (some ⟨g, 0, none⟩)] w fun e w' => e = .returned (.int .i64 1) /\ Below w.heap.size w w' := by
 have HL : Hid (l.length <= 256 /\ X.length <= 512 /\ mayL X.length l = true) := jz ⟨(blkF_len hB).1, (blkF_len hB).2, blkF_some hB⟩
 have HB := jz hB
 have C1 := jz (fun w' (hb : Below w.heap.size w w') => hWords_is (hp.below hb).hb hi.num hi.hc.lg hi.live hi.hc.has)
 have CB := jz (fun w' (hb : Below w.heap.size w w') => rmblk_is w' (hm.below hb))
 have hg1 : ∀ w', Below w.heap.size w w' -> w'.cell? ⟨g, 1, none⟩ = some (.int .i64 r') := fun w' hb => by
  obtain ⟨mv, mW, _⟩ := (hm.below hb).rows
  rw [Whole.at_ mW]; rfl
 have HOK := jz hi.hc.ok
 clear hp hi hm hB
 obtain ⟨z, hz⟩ : ∃ z, a.z = z := ⟨_, rfl⟩
 rw [hz] at C1 ⊢
 clear hz
 go_enter Tryz.func18, Tryz.ntmps18
 go_wp2_with fail
 refine (C1.out _ (Below.refl _ _)).mono ?_; rintro e w1 ⟨⟨v1, rfl, o1⟩, b1⟩
 have B1 := jz b1
 have C2 := jz (blocks_is X v1 (some l) w1 o1.ru (by have := HL.out; omega) HOK.out HB.out)
 obtain ⟨q1, c1, rfl⟩ := o1.shape
 clear o1 b1
 go_wp2_with fail
 refine (C2.out).mono ?_; rintro e w2 ⟨⟨v2, rfl, o2⟩, b2⟩
 have o2' : OwnA blkE w1.heap.size w2 v2 l := o2
 have O2 := jz o2'.ra
 have B2 := jz (below_more B1.out b2)
 obtain ⟨q2, c2, rfl, _⟩ := ra_shape o2'.ra
 clear o2 o2' b2 C1 C2
 have bd : Below w2.heap.size w2 w2.drew := (Below.refl _ _).drew
 have cg7 : ∀ w', Below w2.heap.size w2 w' -> w'.cell? ⟨g, 1, none⟩ = some (.int .i64 r') := fun w' hb => hg1 w' (below_more B2.out hb)
 go_wp2
 refine wp_region_any (by kernel_rfl) ?_
 try (change wpAny _ _ _ _ _ _ _ (World.drew _))
 refine wpAny_ready (rs := [0]) (by kernel_rfl) (by simp) ?_
 refine AllReady.cons rfl (fun K hK => ?_) AllReady.nil
 go_simp
 refine hK _ _ ?_; clear hK K
 refine wpAny_ready (rs := [1]) (by kernel_rfl) (by simp) ?_
 refine AllReady.cons rfl (fun K hK => ?_) AllReady.nil
 go_simp
 refine hK _ _ ?_; clear hK K
 refine wpAny_ready (rs := [2]) (by kernel_rfl) (by simp) ?_
 refine AllReady.cons rfl (fun K hK => ?_) AllReady.nil
 go_simp
 refine hK _ _ ?_; clear hK K
 refine wpAny_ready (rs := [3]) (by kernel_rfl) (by simp) ?_
 refine AllReady.cons rfl (fun K hK => ?_) AllReady.nil
 go_simp
 refine hK _ _ ?_; clear hK K
 refine wpAny_ready (rs := [4]) (by kernel_rfl) (by simp) ?_
 refine AllReady.cons rfl (fun K hK => ?_) AllReady.nil
 go_simp
 refine hK _ _ ?_; clear hK K
 refine wpAny_ready (rs := [5]) (by kernel_rfl) (by simp) ?_
 refine AllReady.cons rfl (fun K hK => ?_) AllReady.nil
 go_simp
 refine hK _ _ ?_; clear hK K
 refine wpAny_ready (rs := [6]) (by kernel_rfl) (by simp) ?_
 refine AllReady.cons rfl (fun K hK => ?_) AllReady.nil
 go_simp
 refine hK _ _ ?_; clear hK K
 refine wpAny_take (i := 7) (v := ?_) rfl (by kernel_rfl) (by kernel_rfl) (by kernel_rfl) (fun _ _ _ h => h) (Or.inl ⟨by rfl, ?_⟩) ?_
 rotate_left
 . intro w
   go_simp
   try with_reducible rfl
 refine wpAny_ready (rs := [8]) (by kernel_rfl) (by simp) ?_
 refine AllReady.cons rfl (fun K hK => ?_) AllReady.nil
 go_simp
 refine hK _ _ ?_; clear hK K
 refine wpAny_ready (rs := [9]) (by kernel_rfl) (by simp) ?_
 refine AllReady.cons rfl (fun K hK => ?_) AllReady.nil
 go_simp
 go_at_call 54
 refine (CB.out _ (below_more B2.out bd)).mono ?_; rintro e w3 ⟨⟨v3, rfl, o3⟩, b3⟩
 have O3 := jz o3.ra
 have B3 := jz (bd.trans b3)
 clear o3 b3
 refine hK _ _ ?_; clear hK K
 refine wpAny_ready (rs := [10]) (by kernel_rfl) (by simp) ?_
 refine AllReady.cons rfl (fun K hK => ?_) AllReady.nil
 go_simp
 go_at_call 53
 refine (blks_not (ra_below O2.out B3.out) O3.out hne).mono ?_; rintro e w4 ⟨rfl, n4, rfl⟩
 have B4 := jz (below_drewN B3.out n4)
 refine hK _ _ ?_; clear hK K
 refine wpAny_ready (rs := [11]) (by kernel_rfl) (by simp) ?_
 refine AllReady.cons rfl (fun K hK => ?_) AllReady.nil
 go_simp
 refine hK _ _ ?_; clear hK K
 refine wpAny_ready (rs := [12]) (by kernel_rfl) (by simp) ?_
 refine AllReady.cons rfl (fun K hK => ?_) AllReady.nil
 go_simp
 refine hK _ _ ?_; clear hK K
 refine wpAny_ready (rs := [13]) (by kernel_rfl) (by simp) ?_
 refine AllReady.cons rfl (fun K hK => ?_) AllReady.nil
 go_simp
 refine hK _ _ ?_; clear hK K
 refine wpAny_take (i := 14) (v := undef) rfl (by kernel_rfl) (by kernel_rfl) (by kernel_rfl) (fun _ _ _ h => h) (Or.inr ⟨by kernel_rfl, rfl⟩) ?_
 refine wpAny_take (i := 15) (v := undef) rfl (by kernel_rfl) (by kernel_rfl) (by kernel_rfl) (fun _ _ _ h => h) (Or.inr ⟨by kernel_rfl, rfl⟩) ?_
 refine wpAny_take (i := 16) (v := undef) rfl (by kernel_rfl) (by kernel_rfl) (by kernel_rfl) (fun _ _ _ h => h) (Or.inr ⟨by kernel_rfl, rfl⟩) ?_
 refine wpAny_take (i := 17) (v := undef) rfl (by kernel_rfl) (by kernel_rfl) (by kernel_rfl) (fun _ _ _ h => h) (Or.inr ⟨by kernel_rfl, rfl⟩) ?_
 refine wpAny_take (i := 18) (v := undef) rfl (by kernel_rfl) (by kernel_rfl) (by kernel_rfl) (fun _ _ _ h => h) (Or.inr ⟨by kernel_rfl, rfl⟩) ?_
 refine wpAny_take (i := 19) (v := undef) rfl (by kernel_rfl) (by kernel_rfl) (by kernel_rfl) (fun _ _ _ h => h) (Or.inr ⟨by kernel_rfl, rfl⟩) ?_
 refine wpAny_take (i := 20) (v := undef) rfl (by kernel_rfl) (by kernel_rfl) (by kernel_rfl) (fun _ _ _ h => h) (Or.inr ⟨by kernel_rfl, rfl⟩) ?_
 refine wpAny_take (i := 21) (v := undef) rfl (by kernel_rfl) (by kernel_rfl) (by kernel_rfl) (fun _ _ _ h => h) (Or.inr ⟨by kernel_rfl, rfl⟩) ?_
 refine wpAny_take (i := 22) (v := undef) rfl (by kernel_rfl) (by kernel_rfl) (by kernel_rfl) (fun _ _ _ h => h) (Or.inr ⟨by kernel_rfl, rfl⟩) ?_
 refine wpAny_take (i := 23) (v := undef) rfl (by kernel_rfl) (by kernel_rfl) (by kernel_rfl) (fun _ _ _ h => h) (Or.inr ⟨by kernel_rfl, rfl⟩) ?_
 refine wpAny_ready (rs := [24]) (by kernel_rfl) (by simp) ?_
 refine AllReady.cons rfl (fun K hK => ?_) AllReady.nil
 go_simp
 refine hK _ _ ?_; clear hK K
 refine wpAny_done (by kernel_rfl) ?_ _
 have F := jz (below_more B2.out B4.out)
 go_wp2_with fail
 go_ret
 exact ⟨rfl, F.out⟩
theorem says_ex {w : World} {a : Ha} {S : Hs} {K : Nat} {X X' : List Int} {r : Nat} {D : List Nat} {g : Nat} {l l' : List Bk} {r' : Int} (hp : Hp w a S) (hi : HI a S K X r) (hK : K < 1000) (hco : S.s.comes = false) (hB : blkF X = some l) (hm : Rm w D g X' l' r') :
 Calls Tryz.prog 18 #[.pointer (some ⟨a.z, 0, none⟩), .pointer (some ⟨g, 0, none⟩)] w fun e w' => (∃ v : Int, e = .returned (.int .i64 v) /\ (v = 0 ↔ SameC X X' l l' (r : Int) r')) /\ Below w.heap.size w w' := by
 by_cases hl : l = l'
 . subst hl
   by_cases hr : (r : Int) = r'
   . subst hr
     exact says_like hp hi hK hco hB hm
   . refine (says_root hp hi hK hco hB hm hr).mono ?_
     rintro e w' ⟨rfl, hb⟩
     exact ⟨⟨1, rfl, ⟨fun q => absurd q (by decide), fun q => absurd q.2.1 hr⟩⟩, hb⟩
 . refine (says_blks hp hi hK hco hB hm hl).mono ?_
   rintro e w' ⟨rfl, hb⟩
   exact ⟨⟨1, rfl, ⟨fun q => absurd q (by decide), fun q => absurd q.1 hl⟩⟩, hb⟩



theorem OwnI.below_h {B : Nat} {w w' : World} {v : Value} {l : List Int} (h : OwnI B w v l) (hb : Below w.heap.size w w') : OwnI B w' v l := own_up_i h hb
theorem Px.Wf.up_h {w w' : World} {x : Px} (h : x.Wf w) (hb : Below w.heap.size w w') : x.Wf w' := ⟨h.wd, h.wo, h.wn, h.wm, h.one, ra_below h.rv hb⟩
def May6 (d : Int) : Prop := 1 <= d /\ d <= 6
instance (d : Int) : Decidable (May6 d) := inferInstanceAs (Decidable (_ /\ _))
theorem HC.keep1 {s s' : Nv} {N P K : Nat} {X : List Int} {r : Nat} (h : HC s N P K X r) (ok : s'.Ok) (hn : s'.n = s.n) (hr : s'.rg = s.rg) (hh : s'.h = s.h) (hc : s'.c <= s.c + 4000) (hK : K < 1000) : HC s' N P (K + 1) X r := by
 obtain ⟨e1, e2, e3, e4, e5⟩ := h.lg.like ok hn hr hh
 exact ⟨e1, h.has.same fun b _ _ => e5 b, h.ok, h.snd, by rw [hr]; exact h.rt, h.rlt, fun q hq => by rw [hr]; obtain ⟨v, e1, e2⟩ := h.rgs q hq; exact ⟨v, e1, by omega⟩, by rw [e3]; have := h.m; omega, by have := h.c; omega, by omega⟩
theorem HI.keep1 {a : Ha} {S : Hs} {s' : Nv} {K : Nat} {X : List Int} {r : Nat} (h : HI a S K X r) (ok : s'.Ok) (hn : s'.n = S.s.n) (hr : s'.rg = S.s.rg) (hh : s'.h = S.s.h) (hc : s'.c <= S.s.c + 4000) (hd : s'.dark = false) (hK : K < 1000) : HI a ⟨s', S.p, S.ct, S.wf⟩ (K + 1) X r :=
 ⟨h.hc.keep1 ok hn hr hh hc hK, hd, h.num, h.ct, h.cn, h.cb, fun q hq => by show s'.rg (19 + q) = _; rw [hr]; exact h.kp q hq, fun q hq => by have := h.cm q hq; show S.ct.c q <= _; omega, by have := h.p; show S.p <= _; omega, fun q => (congrArg leftT (Nv.tb_congr hr a.P)).trans (h.wl (q.imp id fun k e => k (by unfold lk; rw [show s'.rg = S.s.rg from hr]; exact e)))⟩
def ROutX (w w' : World) (a0 : Ha) (s : Nv) (K : Nat) (X : List Int) (r : Nat) (e : Ending) : Prop :=
 Chg [a0.g] w w' ∧
 ((∃ a S, e = .returned (.tuple #[.pointer (some ⟨a.z, 0, none⟩), .int .i64 0]) /\ (a.g = a0.g /\ a.N = a0.N /\ a.P = a0.P /\ a.per = a0.per /\ a.b = a0.b) ∧
    Hp w' a S /\ HI a S (K + 1) X r /\ S.s.comes = s.comes /\ S.s.n = s.n /\ (∀ q, q < (a0.N + 3) / 4 -> s.rg (19 + q) = (S.ct.c q : Int) /\ S.s.rg (19 + q) = s.rg (19 + q))) ∨
  (e = .returned (.tuple #[.pointer none, .int .i64 2]) /\ s.comes = true /\ ∃ s', Nm w' a0.g s' /\ HC s' a0.N a0.P (K + 1) X r /\ s'.n = s.n))
theorem hopen_hcx {w : World} {a : Ha} {s : Nv} {K : Nat} {X : List Int} {r : Nat} (hn : HNum a) (h : HC s a.N a.P K X r) (hK : K < 1000) (hd : s.dark = false) (hN : Nm w a.g s) :
 Calls Tryz.prog 33 #[.pointer (some ⟨a.g, 0, none⟩), (Value.agg #[Value.int IntKind.i64 (a.N : Int), Value.int IntKind.i64 (a.P : Int), Value.int IntKind.i64 (a.per : Int), Value.int IntKind.i64 (a.b : Int)])] w fun e w' => ROutX w w' a s K X r e := by
 have hnN := hn.N
 have hq16 : ∀ q, q < (a.N + 3) / 4 -> q < 16 := fun q hq => by omega
 have hF : ∀ q, q < (a.N + 3) / 4 -> s.rg (19 + q) = (((s.rg (19 + q)).toNat : Nat) : Int) /\ (s.rg (19 + q)).toNat <= 14 * K := fun q hq => by
  obtain ⟨v, e1, e2⟩ := h.rgs q (hq16 q hq)
  rw [e1]
  omega
 have hm := h.m
 have hc := h.c
 have hrl := h.rlt
 have hIn : OIn a s X r (fun q => (s.rg (19 + q)).toNat) := ⟨hn, h.lg, hd, h.has, h.ok, h.rt, by omega, fun q hq => by have := hF q hq; exact ⟨this.1, by omega⟩, by omega, by omega⟩
 refine (hopen_is hIn hN rfl).mono ?_
 rintro e w' ⟨c1, o⟩
 obtain ⟨g1, g2, _, g4, g5, g6, _, _, g9⟩ := rec_out (per := a.per) h hn.P hK hd rfl
 have hwl : (lrec (16 + a.N) a.P a.per 0 s).1 = 0 -> lk (lrec (16 + a.N) a.P a.per 0 s).2.2 ≠ 0 -> leftT ((lrec (16 + a.N) a.P a.per 0 s).2.2.tb a.P) = 0 := lrec_left
 generalize lrec (16 + a.N) a.P a.per 0 s = R at *
 have hs : soundB X (r : Int) = true := h.snd
 refine ⟨c1, ?_⟩
 rcases o with ⟨e0, _, z, y, qq, x, k, kg, he, _, hp⟩ | ⟨_, e1, _⟩ | ⟨e0, he, hN'⟩
 . have hd' : R.2.2.dark = false := by
    rcases g9 with ⟨_, q⟩ | ⟨q, _⟩
    . exact q
    . omega
   obtain ⟨G, hG⟩ : ∃ G, (byF ((a.N + 3) / 4) fun q => (((s.rg (19 + q)).toNat : Nat) : Int)) = G := ⟨_, rfl⟩
   have hl : G.length = (a.N + 3) / 4 := by rw [<- hG, byF_length]
   rw [hG, hl] at hp
   have hcc := cnew_c (b := a.b) hG.symm (fun q hq => by have := (hF q hq).2; omega)
   have hok := cnew_ok hn.b.1 hn.b.2 (l := G) (by omega) G.length
   rw [hl] at hok
   refine .inl ⟨⟨z, a.g, y, qq, x, k, kg, a.N, a.P, a.per, a.b⟩, ⟨R.2.2, R.2.1, cnew a.b ((a.N + 3) / 4) G ((a.N + 3) / 4), false⟩, he, ⟨rfl, rfl, rfl, rfl, rfl⟩, hp, ⟨g1, hd', ⟨hn.N, hn.P, hn.per, hn.b⟩, hok, rfl, rfl, fun q (hq : q < (a.N + 3) / 4) => ?_, fun q (hq : q < (a.N + 3) / 4) => ?_, by dsimp only; omega, fun q => hwl e0 (q.resolve_left fun k => by cases k)⟩, g4, g5, fun q hq => ⟨?_, g6 q⟩⟩
   . show R.2.2.rg (19 + q) = _
     rw [g6 q, (hcc q hq).2]
     exact (hF q hq).1
   . show (cnew a.b ((a.N + 3) / 4) G ((a.N + 3) / 4)).c q <= 14 * (K + 1)
     rw [(hcc q hq).1]
     have := (hF q hq).2
     omega
   . show s.rg (19 + q) = (((cnew a.b ((a.N + 3) / 4) G ((a.N + 3) / 4)).c q : Nat) : Int)
     rw [(hcc q hq).1]
     exact (hF q hq).1
 . rw [hs] at e1; cases e1
 . rcases g9 with ⟨q, _⟩ | ⟨q, co⟩
   . exact absurd q e0
   . exact .inr ⟨by rw [he, q], co, R.2.2, hN', g1, g5⟩
theorem do_past {w w' : World} {a : Ha} {S : Hs} {K : Nat} {X : List Int} {r : Nat} {x : Px} {e : Ending} (hi : HI a S K X r) (hK : K < 1000) (h : DoOut w w' a S K X r x e) :
 ∃ (E o : Int) (v : Value) (S' : Hs) (pl : Aim) (Xf : List Int) (rf : Nat), e = .returned (.agg (anc E o v)) /\ v.oneCell' = true /\ PlanOf X r S.ct.ints x.d x.o x.nn x.bl pl /\ Hp w' a S' /\ Chg a.D w w' /\ S'.s.n = S.s.n /\ HC S'.s a.N a.P (K + 1) Xf rf /\ ((Xf = X /\ rf = r) \/ (Xf = pl.X /\ rf = pl.r)) /\ (E = 0 -> Xf = pl.X /\ rf = pl.r) /\ (E ≠ 0 -> E ≠ 2 -> Xf = X /\ rf = r) := by
 obtain ⟨pl, t, v, h1, h2, h3, S', g1, g2, _, _, g5, h⟩ := h
 have hv := ra_one h3.ra
 have hc0 := hi.hc.more (J := K + 1) (by omega) (by omega)
 rcases h with ⟨rfl, _, _, rfl⟩ | ⟨rfl, q1, rfl⟩ | ⟨rfl, _, _, _, q4, _⟩ | ⟨rfl, _, _, _, _, q4, _⟩ | ⟨q0, _, q2, _, _, q5⟩
 . exact ⟨3, _, v, S', pl, X, r, h2, hv, h1, g1, g2, g5, hc0, .inl ⟨rfl, rfl⟩, fun q => absurd q (by decide), fun _ _ => ⟨rfl, rfl⟩⟩
 . obtain ⟨p1, p2, _⟩ := plan_rest h1 fun q => (q1 q).1
   exact ⟨pl.e, _, v, S', pl, X, r, h2, hv, h1, g1, g2, g5, hc0, .inl ⟨rfl, rfl⟩, fun _ => ⟨p1.symm, p2.symm⟩, fun _ _ => ⟨rfl, rfl⟩⟩
 . exact ⟨0, _, v, S', pl, pl.X, pl.r, h2, hv, h1, g1, g2, g5, q4.hc, .inr ⟨rfl, rfl⟩, fun _ => ⟨rfl, rfl⟩, fun q => absurd rfl q⟩
 . exact ⟨3, _, v, S', pl, X, r, h2, hv, h1, g1, g2, g5, q4.hc, .inl ⟨rfl, rfl⟩, fun q => absurd q (by decide), fun _ _ => ⟨rfl, rfl⟩⟩
 . have ht : dE t = 2 := by rcases q0 with rfl | rfl <;> rfl
   rw [ht] at h2
   rcases q5 with q5 | q5
   . exact ⟨2, _, v, S', pl, X, r, h2, hv, h1, g1, g2, g5, q5, .inl ⟨rfl, rfl⟩, fun q => absurd q (by decide), fun _ q => absurd rfl q⟩
   . exact ⟨2, _, v, S', pl, pl.X, pl.r, h2, hv, h1, g1, g2, g5, q5, .inr ⟨rfl, rfl⟩, fun q => absurd q (by decide), fun _ q => absurd rfl q⟩
def NextOf (w : World) (D : List Nat) (g : Nat) (X : List Int) (r : Nat) (cs : List Int) (x : Px) : Prop := ∃ (pl : Aim) (ln : List Bk), PlanOf X r cs x.d x.o x.nn x.bl pl /\ Rm w D g pl.X ln (pl.r : Int)
theorem next_other {w : World} {D : List Nat} {g : Nat} {X : List Int} {l : List Bk} {r : Nat} {cs : List Int} {x : Px} (h : Rm w D g X l (r : Int)) (c1 : x.d ≠ 1) (c2 : x.d ≠ 2) (c4 : x.d ≠ 4) (c5 : x.d ≠ 5) : NextOf w D g X r cs x := by
 by_cases c3 : x.d = 3
 . exact ⟨plD X r x.o x.nn, l, by unfold PlanOf; rw [if_neg c1, if_neg c2, if_pos c3], h⟩
 by_cases c6 : x.d = 6
 . exact ⟨plG X r, l, by unfold PlanOf; rw [if_neg c1, if_neg c2, if_neg c3, if_neg c4, if_neg c5, if_pos c6], h⟩
 exact ⟨plNo X r 1, l, by unfold PlanOf; rw [if_neg c1, if_neg c2, if_neg c3, if_neg c4, if_neg c5, if_neg c6], h⟩
theorem next_alloc_no {w : World} {D : List Nat} {g : Nat} {X : List Int} {l : List Bk} {r : Nat} {cs : List Int} {x : Px} (h : Rm w D g X l (r : Int)) (c1 : x.d = 1) (h0 : (alR X x.nn cs).2.2 ≠ 0) : NextOf w D g X r cs x := by
 refine ⟨plA X r cs x.nn, l, by rw [c1]; exact planA, ?_⟩
 have e : (plA X r cs x.nn).X = X /\ (plA X r cs x.nn).r = r := by
  unfold plA plNo
  split
  . exact ⟨rfl, rfl⟩
  . exact ⟨rfl, rfl⟩
 rw [e.1, e.2]; exact h
theorem next_alloc {X : List Int} {r N : Nat} {n : Int} {cs : List Int} (hl : X.length = 8 * N) (hs : soundB X r = true) (hok : WordsOk X) (h0 : (alR X n cs).2.2 = 0) : ∃ ln, blkF (appF X (alR X n cs).1) = some ln /\ WordsOk (appF X (alR X n cs).1) /\ (alR X n cs).1.length <= 4000 /\ (plA X r cs n).X = appF X (alR X n cs).1 /\ (plA X r cs n).r = r := by
 have hn : needN n ≠ 0 := fun q => by rw [alR_arg q] at h0; cases h0
 obtain ⟨hg, _⟩ := alR_good hl hs hok hn h0
 obtain ⟨ln, hB, _⟩ := sound_some hg.snd
 refine ⟨ln, hB, hg.ok, hg.len, ?_, ?_⟩ <;> (unfold plA; rw [if_neg hn, if_pos h0])
theorem next_free {w : World} {D : List Nat} {g : Nat} {X : List Int} {l : List Bk} {r : Nat} {cs : List Int} {x : Px} (hok : WordsOk X) (hB : blkF X = some l) (h : Rm w D g (feW X l x.o (r : Int)) (feB l x.o (r : Int)) (r : Int)) (c2 : x.d = 2) : NextOf w D g X r cs x := by
 obtain ⟨_, e2, _, _, e5⟩ := aim_free (r := r) (o := x.o) hok hB
 refine ⟨plF X r x.o, feB l x.o (r : Int), by rw [c2]; exact planF, ?_⟩
 rw [e2, e5]; exact h
theorem next_root {w : World} {D : List Nat} {g : Nat} {X : List Int} {l : List Bk} {r : Nat} {cs : List Int} {x : Px} (hB : blkF X = some l) (h : Rm w D g X l (if srQ l x.o = 0 then x.o else (r : Int))) (c5 : x.d = 5) : NextOf w D g X r cs x := by
 obtain ⟨_, e2, e3, _⟩ := aim_root (r := r) (o := x.o) hB
 refine ⟨plR X r x.o, l, by rw [c5]; exact planR, ?_⟩
 rw [e2, e3]; exact h
theorem next_write {w : World} {D : List Nat} {g : Nat} {X : List Int} {l : List Bk} {r N : Nat} {cs : List Int} {x : Px} {M : List Ed} (hl : X.length = 8 * N) (hs : soundB X r = true) (hok : WordsOk X) (hB : blkF X = some l) (hM : WrT X x.bl x.o M) (h : Rm w D g (appF X M) l (r : Int)) (c4 : x.d = 4) : NextOf w D g X r cs x := by
 obtain ⟨_, e2, _, _, _, e6⟩ := aim_write hl hs hok hB hM
 refine ⟨plW X r x.o x.bl M, l, by rw [c4]; exact planW hM, ?_⟩
 rw [<- (e2 M hM).1, e6]; exact h
theorem rmwrite_x {D : List Nat} {g : Nat} {wl : List Int} {l : List Bk} {r : Int} (o : Int) (bl : List Int) (u : Value) (w : World) (h : Rm w D g wl l r) (hu : RA byE w u bl) (hbl : bl.length <= 100000) (ho : -9223372036854775808 <= o /\ o <= 9223372036854775807) (hwl' : ∀ M, WrT wl bl o M -> blkF (appF wl M) = some l /\ WordsOk (appF wl M) /\ M.length <= 4000) : Calls Tryz.prog 28 #[.pointer (some ⟨g, 0, none⟩), .int .i64 o, u] w fun e w' =>
 e = .returned (.int .i64 (refF wl o bl.length)) /\ (∃ M, WrT wl bl o M /\ Rm w' D g (appF wl M) l r) /\ Chg [g] w w' := by
 obtain ⟨_, hwl, _⟩ := h.len
 obtain ⟨v, hW, hv, _⟩ := h.rows
 have T := jz (rwr_is wl bl o v u w hv hu (by omega) hbl h.ok ho)
 have c0 : ∀ w', Below w.heap.size w w' -> w'.cell? ⟨g, 0, none⟩ = some v := fun w' hb => by rw [hb.cell (p := ⟨g, 0, none⟩) hW.lt, Whole.at_ hW]; rfl
 have f0 : ∀ w', Below w.heap.size w w' -> w'.frozen? ⟨g, 0, none⟩ = false := fun w' hb => Whole.free ((hb.block g hW.lt).trans hW) 0
 have CA := jz (fun (M : List Ed) (v' : Value) (w' : World) (hb : Below w.heap.size w w') (hv' : RA edE w' v' M) (hM : M.length <= 4000) => rapply_any wl M v v' w' (ru_below hv hb) hv' (by omega) hM)
 have d0 := c0 w (Below.refl _ _)
 have HA := jz hwl'
 have FIN := jz (fun M (hM : WrT wl bl o M) wq uq (hb : Below w.heap.size w wq) (B : Nat) (ho : OwnU B wq uq (appF wl M)) (hB : w.heap.size <= B) => (show (∃ M, WrT wl bl o M /\ Rm (wq.setCell ⟨g, 0, none⟩ uq) D g (appF wl M) l r) /\ Chg [g] w (wq.setCell ⟨g, 0, none⟩ uq) from ⟨⟨M, hM, (h.put hb ho hB (hwl' M hM).1 (hwl' M hM).2.1).1⟩, (h.put hb ho hB (hwl' M hM).1 (hwl' M hM).2.1).2⟩))
 have STAY := jz (fun w' (hb : Below w.heap.size w w') => And.intro (h.below hb) (Chg.of_below hb [g]))
 have hs : Hid (∀ M, WrT wl bl o M -> refF wl o bl.length ≠ 0 -> appF wl M = wl) := jz fun M hM hr => by
  unfold WrT at hM
  rw [if_neg hr] at hM
  rw [hM]
  rfl
 obtain ⟨q, d, rfl, _, _⟩ := ra_shape hu
 clear hW hv hu hbl ho hwl' hwl h
 generalize refF wl o bl.length = R at *
 have HT := jz T
 generalize bl.length = Z at *
 by_cases h0 : R = 0
 . subst h0
   go_enter Tryz.func28, Tryz.ntmps28
   go_wp2_with fail
   refine (T.out).mono ?_; rintro e w1 ⟨⟨x, M, rfl, ox, tx⟩, b1⟩
   have D1 := jz b1
   have d1 := c0 w1 b1
   have C3 := jz (CA.out M x w1 b1 ox.ra (HA.out M tx).2.2)
   have TX := jz tx
   clear b1 ox tx
   go_wp2_with fail
   refine (C3.out).mono ?_; rintro e w2 ⟨⟨y, rfl, oy⟩, b2⟩
   have B2 := jz (below_more D1.out b2)
   have FQ := jz (FIN.out M TX.out w2 y B2.out _ oy D1.out.size)
   have f2 := f0 w2 B2.out
   have d2 := c0 w2 B2.out
   obtain ⟨pq, cq, rfl⟩ := oy.shape
   clear oy b2
   go_wp2_with fail
   go_ret
   exact ⟨rfl, FQ.out⟩
 . have e0 : (R == 0) = false := beq_eq_false_iff_ne.2 h0
   have HR := jz h0
   clear h0
   go_enter Tryz.func28, Tryz.ntmps28
   go_wp2_with fail
   refine (T.out).mono ?_; rintro e w1 ⟨⟨x, M, rfl, ox, tx⟩, b1⟩
   have F0 := STAY.out w1 b1
   have FQ := jz (And.intro (show ∃ M, WrT wl bl o M /\ Rm w1 D g (appF wl M) l r from ⟨M, tx, by rw [hs.out M tx HR.out]; exact F0.1⟩) F0.2)
   clear F0
   clear b1 ox tx
   go_wp2_with fail
   go_ret
   exact ⟨rfl, FQ.out⟩
theorem Hp.mem {w w' : World} {a : Ha} {S : Hs} {s' : Nv} (h : Hp w a S) (hc : Chg [a.g] w w') (hN : Nm w' a.g s') : Hp w' a ⟨s', S.p, S.ct, S.wf⟩ :=
 ⟨⟨hc.whole h.hb.top (by simpa using h.hb.zz.1), h.hb.lg.mem hc hN, h.hb.zz⟩, h.cq.chg hc (by simpa using h.far.2.2.1) (by simpa using h.far.2.2.2.2.1), h.far⟩
end Go.Proofs.YtjkefcidbcifpaaGreat
