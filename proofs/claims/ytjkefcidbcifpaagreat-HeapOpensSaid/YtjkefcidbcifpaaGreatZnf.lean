import Derived.Deep.RegionLaw
import Derived.Test.YtjkefcidbcifpaaGreatZne
set_option maxRecDepth 100000
set_option maxHeartbeats 8000000
namespace Go.Proofs.YtjkefcidbcifpaaGreat
open Go.ChangeShapes Go.WideShapes Go.ChangeAt Go.RowKit
theorem plan_three {X : List Int} {r : Nat} {cs : List Int} {d o n : Int} {bl : List Int} {pl : Aim} (h : PlanOf X r cs d o n bl pl) : pl.e ≠ 3 := by
 intro q
 unfold PlanOf at h
 have hr : ∀ a b, refF X a b ≠ 3 := fun a b e => by rcases refF_cases X a b with c | c | c <;> omega
 have ha : ∀ n cs, (alR X n cs).2.2 ≠ 3 := fun n cs e => by
  unfold alR at e
  split at e
  . cases e
  . split at e
    . cases e
    . split at e <;> cases e
 have hf : ∀ o, (frR X o).2 ≠ 3 := fun o e => by
  unfold frR at e
  split at e
  . cases e
  . split at e <;> cases e
 by_cases c1 : d = 1
 . rw [if_pos c1] at h
   subst h
   unfold plA plNo at q
   split at q
   . cases q
   . split at q
     . cases q
     . exact ha _ _ q
 rw [if_neg c1] at h
 by_cases c2 : d = 2
 . rw [if_pos c2] at h
   subst h
   unfold plF plNo at q
   split at q
   . exact hf _ q
   . split at q <;> cases q
 rw [if_neg c2] at h
 by_cases c3 : d = 3
 . rw [if_pos c3] at h
   subst h
   exact hr _ _ q
 rw [if_neg c3] at h
 by_cases c4 : d = 4
 . rw [if_pos c4] at h
   obtain ⟨M, _, rfl⟩ := h
   unfold plW plNo at q
   split at q
   . exact hr _ _ q
   . cases q
 rw [if_neg c4] at h
 by_cases c5 : d = 5
 . rw [if_pos c5] at h
   subst h
   unfold plR plNo at q
   split at q <;> cases q
 rw [if_neg c5] at h
 by_cases c6 : d = 6
 . rw [if_pos c6] at h
   subst h
   cases q
 rw [if_neg c6] at h
 subst h
 cases q
structure WantP (X : List Int) (pl : Aim) (Q : Int) (X7 : List Int) (r7 : Int) (non : Bool) : Prop where
 e : pl.e = Q
 off : pl.off = 0
 data : pl.data = []
 X : pl.X = X7
 r : ((pl.r : Nat) : Int) = r7
 ch : pl.ch = true ↔ Q = 0 /\ non = false
 n3 : Q ≠ 3
theorem want2 {X : List Int} {l : List Bk} {r : Nat} {cs : List Int} {o n : Int} {bl : List Int} {pl : Aim} (hok : WordsOk X) (hB : blkF X = some l) (h : PlanOf X r cs 2 o n bl pl) : WantP X pl (feQ l o r) (feW X l o r) r false := by
 have h3 := plan_three h
 have e : pl = plF X r o := h
 rw [e] at h3 ⊢
 obtain ⟨a1, a2, a3, a4, a5⟩ := aim_free (r := r) (o := o) hok hB
 have b : (plF X r o).off = 0 /\ (plF X r o).data = [] := by
  unfold plF plNo
  split
  . exact ⟨rfl, rfl⟩
  . split <;> exact ⟨rfl, rfl⟩
 exact ⟨a1, b.1, b.2, a2, by rw [a5], by rw [a4, a1]; simp, by rw [<- a1]; exact h3⟩
theorem want5 {X : List Int} {l : List Bk} {r : Nat} {cs : List Int} {o n : Int} {bl : List Int} {pl : Aim} (hB : blkF X = some l) (h : PlanOf X r cs 5 o n bl pl) : WantP X pl (srQ l o) X (if srQ l o = 0 then o else (r : Int)) false := by
 have h3 := plan_three h
 have e : pl = plR X r o := h
 rw [e] at h3 ⊢
 obtain ⟨a1, a2, a3, a4⟩ := aim_root (r := r) (o := o) hB
 have b : (plR X r o).off = 0 /\ (plR X r o).data = [] := by
  unfold plR plNo
  split <;> exact ⟨rfl, rfl⟩
 exact ⟨a1, b.1, b.2, a2, a3, by rw [a4, a1]; simp, by rw [<- a1]; exact h3⟩
theorem want4 {X : List Int} {l : List Bk} {r N : Nat} {cs : List Int} {o n : Int} {bl : List Int} {pl : Aim} (hl : X.length = 8 * N) (hs : soundB X r = true) (hok : WordsOk X) (hB : blkF X = some l) (h : PlanOf X r cs 4 o n bl pl) :
 WantP X pl (refF X o bl.length) pl.X r (decide (bl.length = 0)) /\ (∀ M', WrT X bl o M' -> appF X M' = pl.X /\ M'.length <= 4000) /\ blkF pl.X = some l /\ WordsOk pl.X := by
 have h3 := plan_three h
 have e : ∃ M, WrT X bl o M /\ pl = plW X r o bl M := h
 obtain ⟨M, hM, e⟩ := e
 rw [e] at h3 ⊢
 obtain ⟨a1, a2, a3, a4, a5, a6⟩ := aim_write hl hs hok hB hM
 have b : (plW X r o bl M).off = 0 /\ (plW X r o bl M).data = [] := by
  unfold plW plNo
  split <;> exact ⟨rfl, rfl⟩
 exact ⟨⟨a1, b.1, b.2, rfl, by rw [a6], by rw [a5, a1]; simp, by rw [<- a1]; exact h3⟩, a2, a3, a4⟩
theorem whole_ne {w : World} {g g' : Nat} {t t' : TypeId} {cs cs' : Array Value} (h : Whole w g t cs) (h' : Whole w g' t' cs') (ht : t ≠ t') : g ≠ g' := by
 rintro rfl
 have e : some (Obj.cells cs t (0, 0)) = some (Obj.cells cs' t' (0, 0)) := Eq.trans (Eq.symm h) h'
 injection e with e
 injection e with e1 e2
 exact ht e2
theorem hp_model {w : World} {a : Ha} {S : Hs} {D : List Nat} {g : Nat} {X : List Int} {l : List Bk} {r : Int} (hp : Hp w a S) (hm : Rm w D g X l r) : g ≠ a.q /\ g ≠ a.x /\ g ≠ a.k := by
 obtain ⟨v, h1, _⟩ := hm.rows
 exact ⟨whole_ne h1 hp.hb.lg.lq (by decide), whole_ne h1 hp.hb.lg.lb (by decide), whole_ne h1 hp.cq.top (by decide)⟩
theorem Hp.pastm {w w' : World} {a : Ha} {S : Hs} {D : List Nat} {g : Nat} {X : List Int} {l : List Bk} {r : Int} (hp : Hp w a S) (hm : Rm w D g X l r) (hg : g ∉ a.D) (hc : Chg [g] w w') : Hp w' a S := by
 obtain ⟨m1, m2, m3⟩ := hp_model hp hm
 simp only [Ha.D, List.mem_cons, List.not_mem_nil, or_false, not_or] at hg
 obtain ⟨g1, g2, g3, g4⟩ := hg
 exact hp.chg hc (by simpa using Ne.symm g1) (by simpa using Ne.symm g2) (by simpa using Ne.symm g3) (by simpa using Ne.symm m1) (by simpa using Ne.symm m2) (by simpa using Ne.symm m3) (by simpa using Ne.symm g4)
theorem ra_chg_or {α : Type} [Inhabited α] {P : Program} {E : Elm P α} {D : List Nat} {w w' : World} {v : Value} {l : List α} (h : RA E w v l) (hc : Chg D w w') (hD : l = [] \/ ∀ g, v.ownBlock = some g -> g ∉ D) : RA E w' v l := by
 rcases hD with rfl | hD
 . obtain ⟨p, cap, rfl, h1, h2, h3, _⟩ := h
   exact ⟨p, cap, rfl, h1, h2, h3, .inl rfl⟩
 . exact ra_chg h hc hD
theorem ra_low {α : Type} [Inhabited α] {P : Program} {E : Elm P α} {w : World} {v : Value} {l : List α} (h : RA E w v l) : l = [] \/ ∀ k, v.ownBlock = some k -> k < w.heap.size := by
 obtain ⟨p, cap, rfl, h1, h2, h3, h | ⟨b, off, rfl, hlt, _⟩⟩ := h
 . exact .inl h
 . refine .inr fun k hk => ?_
   injection hk with hk
   rw [<- hk]; exact hlt
def SOutH (w w' : World) (a : Ha) (S : Hs) (K : Nat) (D : List Nat) (g : Nat) (e : Ending) : Prop :=
 e = .returned (.int .i64 0) /\ ∃ S' X' l' r', Hp w' a S' /\ HI a S' (K + 1) X' r' /\ S'.s.la = S.s.la /\ S'.s.comes = false /\ S'.s.n = S.s.n /\ Rm w' D g X' l' ((r' : Nat) : Int) /\ Chg (g :: a.D) w w' /\ (Free S.s -> S.worn = false -> Free S'.s /\ S'.worn = false) /\ (S'.wf = S.wf \/ ¬ Free S.s)
structure SOutR (w w' : World) (a : Ha) (S : Hs) (D : List Nat) (g : Nat) (X : List Int) (l : List Bk) (r : Nat) : Prop where
 hp : Hp w' a S
 rm : Rm w' D g X l (r : Int)
 c : Chg (g :: a.D) w w'
theorem sout_fin {w w3 wf : World} {a : Ha} {S S' : Hs} {K : Nat} {D : List Nat} {g : Nat} {X X' : List Int} {l l' : List Bk} {r r' : Nat} (hp3 : Hp w3 a S') (hm3 : Rm w3 D g X l (r : Int)) (hg : g ∉ a.D) (la : S'.s.la = S.s.la /\ S'.s.comes = false /\ S'.s.n = S.s.n) (hc3 : Chg (g :: a.D) w w3) (hi : HI a S' (K + 1) X' r') (hfr : (Free S.s -> S.worn = false -> Free S'.s /\ S'.worn = false) /\ (S'.wf = S.wf \/ ¬ Free S.s)) (hc : Chg [g] w3 wf) (hm : Rm wf D g X' l' (r' : Int)) : SOutH w wf a S K D g (.returned (.int .i64 0)) :=
 ⟨rfl, S', X', l', r', hp3.pastm hm3 hg hc, hi, la.1, la.2.1, la.2.2, hm, hc3.trans (hc.mono fun k hk => by rw [List.mem_singleton.1 hk]; exact List.mem_cons_self ..), hfr⟩
theorem Rm.take2 {w : World} {D D1 : List Nat} {g x : Nat} {X X' : List Int} {l l' : List Bk} {r r' : Int} (h : Rm w D g X l r) (h' : Rm w D1 x X' l' r') (hD : ∀ k ∈ D, k ∈ D1) : ∃ q n c, w.cell? ⟨x, 0, none⟩ = some (.slice q n c) /\ w.cell? ⟨x, 1, none⟩ = some (.int .i64 r') ∧
 Rm ((w.setCell ⟨g, 0, none⟩ (.slice q n c)).setCell ⟨g, 1, none⟩ (.int .i64 r')) D g X' l' r' /\ Rm ((w.setCell ⟨g, 1, none⟩ (.int .i64 r')).setCell ⟨g, 0, none⟩ (.slice q n c)) D g X' l' r' ∧
 Chg [g] w ((w.setCell ⟨g, 0, none⟩ (.slice q n c)).setCell ⟨g, 1, none⟩ (.int .i64 r')) /\ Chg [g] w ((w.setCell ⟨g, 1, none⟩ (.int .i64 r')).setCell ⟨g, 0, none⟩ (.slice q n c)) := by
 obtain ⟨v0, a1, a2, a3⟩ := h.rows
 obtain ⟨v, b1, b2, b3⟩ := h'.rows
 obtain ⟨q, c, hv, _⟩ := id b2
 have hc1 : Chg [g] w ((w.setCell ⟨g, 0, none⟩ v).setCell ⟨g, 1, none⟩ (.int .i64 r')) := ((Chg.refl [g] w).setCell (p := ⟨g, 0, none⟩) (.inl (by simp)) v).setCell (p := ⟨g, 1, none⟩) (.inl (by simp)) _
 have hc2 : Chg [g] w ((w.setCell ⟨g, 1, none⟩ (.int .i64 r')).setCell ⟨g, 0, none⟩ v) := ((Chg.refl [g] w).setCell (p := ⟨g, 1, none⟩) (.inl (by simp)) _).setCell (p := ⟨g, 0, none⟩) (.inl (by simp)) v
 have hgv : ∀ k, v.ownBlock = some k -> k ∉ [g] := fun k hk q => by
  rw [List.mem_singleton.1 q] at hk
  exact (b3 g hk).2 (hD g h.gD)
 have m1 : Rm ((w.setCell ⟨g, 0, none⟩ v).setCell ⟨g, 1, none⟩ (.int .i64 r')) D g X' l' r' := ⟨h'.hB, h'.ok, h.gD, fun k hk => Nat.lt_of_lt_of_le (h.dlt k hk) hc1.size, v, (a1.set_ 0 v).set_ 1 _, ru_chg b2 hc1 hgv, (b3.less hD).grow hc1.size⟩
 have m2 : Rm ((w.setCell ⟨g, 1, none⟩ (.int .i64 r')).setCell ⟨g, 0, none⟩ v) D g X' l' r' := ⟨h'.hB, h'.ok, h.gD, fun k hk => Nat.lt_of_lt_of_le (h.dlt k hk) hc2.size, v, (a1.set_ 1 _).set_ 0 _, ru_chg b2 hc2 hgv, (b3.less hD).grow hc2.size⟩
 refine ⟨q, _, c, by rw [Whole.at_ b1, hv]; rfl, by rw [Whole.at_ b1]; rfl, ?_, ?_, ?_, ?_⟩
 . rw [<- hv]; exact m1
 . rw [<- hv]; exact m2
 . rw [<- hv]; exact hc1
 . rw [<- hv]; exact hc2
theorem step_else {w : World} {a : Ha} {S : Hs} {K : Nat} {X : List Int} {r : Nat} {D : List Nat} {g : Nat} {l : List Bk} (x : Px) (hp : Hp w a S) (hi : HI a S K X r) (hK : K < 1000) (hco : S.s.comes = false) (hm : Rm w D g X l (r : Int)) (hD : ∀ k ∈ a.D, k ∈ D) (hg : g ∉ a.D) (hx : PxOk w x) (hxf : x.bl = [] \/ ∀ k, x.v.ownBlock = some k -> k ∉ a.D) (hk : ¬ (1 <= x.d /\ x.d <= 6)) :
 Calls Tryz.prog 17 #[.pointer (some ⟨a.z, 0, none⟩), .pointer (some ⟨g, 0, none⟩), .agg (pxc x)] w fun e w' => SOutH w w' a S K D g e := by
 obtain ⟨W0, hW0⟩ : ∃ W0, w.alloc (.cells (pxc x) 37) = W0 := ⟨_, rfl⟩
 have B0 := Lib.hid (show Below w.heap.size w W0 from by rw [<- hW0]; exact bal (Below.refl _ _))
 have PX := Lib.hid (show Pxv W0 w.heap.size x from by rw [<- hW0]; exact Pxv.new w x)
 obtain ⟨qx, cx, hxv, _⟩ := ra_shape hx.v
 have HX := Lib.hid hx
 have HXF := Lib.hid hxf
 have HI0 := Lib.hid hi
 have HP0 := Lib.hid hp
 have HM0 := Lib.hid hm
 have HKK := Lib.hid hK
 have HCO := Lib.hid hco
 have HDD := Lib.hid (And.intro hD hg)
 have HB := Lib.hid (show blkF X = some l from hm.hB)
 have C1 := Lib.hid (hWords_is (hp.below B0.out).hb hi.num hi.hc.lg hi.live hi.hc.has)
 have C2 := Lib.hid (fun w' (hb : Below W0.heap.size W0 w') => hcnt_is ((hp.below B0.out).below hb) (by have := hi.cn; have := hi.num.N; omega))
 have C3 := Lib.hid (fun w' (hb : Below W0.heap.size W0 w') => hworn_is ((hp.below B0.out).below hb) hi.live hi.hc.lg.r1)
 have C4 := Lib.hid (fun w' (hb : Below W0.heap.size W0 w') => hdo_is x ((hp.below B0.out).below hb) hi hK ((hx.below B0.out).below hb))
 have LX : Hid (∀ w', Pxv w' w.heap.size x -> (pxLoad (.pointer (some ⟨w.heap.size, 0, none⟩))).run Tryz.prog w' = .ok (.agg (pxc x)) w') := Lib.hid fun w' h => run_pxLoad fun j u hj => by rw [Whole.at_ h, Nat.zero_add, <- hj]; simp [pxc]
 have HXv := Lib.hid hxv
 obtain ⟨bw, hbw⟩ : ∃ b, S.worn = b := ⟨_, rfl⟩
 rw [hbw] at C3
 have HBW := Lib.hid hbw
 clear hp hi hK hco hm hD hg hx hxf hbw hxv
 obtain ⟨z, hz⟩ : ∃ z, a.z = z := ⟨_, rfl⟩
 have HZ := Lib.hid hz
 rw [hz] at C1 C2 C3 C4 ⊢
 clear hz
 obtain ⟨xc, hxc⟩ : ∃ xc, pxc x = xc := ⟨_, rfl⟩
 have HXC := Lib.hid hxc
 rw [hxc] at C4 LX hW0 ⊢
 clear hxc
 have i1 : (x.d == 1) = false := beq_eq_false_iff_ne.2 (by omega)
 have i2 : (x.d == 2) = false := beq_eq_false_iff_ne.2 (by omega)
 have i3 : (x.d == 3) = false := beq_eq_false_iff_ne.2 (by omega)
 have i4 : (x.d == 4) = false := beq_eq_false_iff_ne.2 (by omega)
 have i5 : (x.d == 5) = false := beq_eq_false_iff_ne.2 (by omega)
 have i6 : (x.d == 6) = false := beq_eq_false_iff_ne.2 (by omega)
 have HK0 := Lib.hid hk
 clear hk
 go_enter Tryz.func17, Tryz.ntmps17
 go_wp2_with fail
 refine (C1.out).mono ?_; rintro e w1 ⟨⟨v1, rfl, o1⟩, b1⟩
 have D1 := Lib.hid b1
 have O1 := Lib.hid o1
 obtain ⟨q1, c1, rfl⟩ := o1.shape
 clear o1 b1
 go_wp2_with fail
 refine (C2.out _ D1.out).mono ?_; rintro e w2 ⟨⟨v2, rfl, o2⟩, b2⟩
 have D2 := Lib.hid (below_more D1.out b2)
 have O1b := Lib.hid (O1.out.below b2)
 have O2 := Lib.hid o2
 obtain ⟨q2, c2, rfl, _⟩ := o2.ri
 clear o2 b2
 go_wp2_with fail
 refine (C3.out _ D2.out).mono ?_; rintro e w3 ⟨rfl, rfl⟩
 have lx2 := LX.out _ (PX.out.below D2.out)
 go_wp2_with fail
 refine (C4.out _ D2.out).mono ?_; rintro e w3 ho
 obtain ⟨S', hp3, hc3, la3, co3, n3, hcalm⟩ := do_calm HI0.out HKK.out HCO.out ho
 have H3 := Lib.hid (And.intro hp3 (And.intro la3 (And.intro co3 n3)))
 have CH3 := Lib.hid hc3
 have HN0 : Hid (w.heap.size < W0.heap.size /\ (∀ k ∈ a.D, k < w.heap.size) /\ g < w.heap.size) := Lib.hid ⟨PX.out.lt, fun k hk => HM0.out.dlt k (HDD.out.1 k hk), HM0.out.dlt g HM0.out.gD⟩
 have PX3 := Lib.hid ((PX.out.below D2.out).chg hc3 (fun q => by have := HN0.out.2.1 _ q; omega))
 have OW3 := Lib.hid (own_chg_u O1b.out hc3 (fun k hk => by have := HN0.out.2.1 _ hk; have := HN0.out.1; omega))
 have OI3 := Lib.hid (own_chg_h O2.out hc3 (fun k hk => by have := HN0.out.2.1 _ hk; have := HN0.out.1; have := D1.out.size; omega))
 have XV3 : Hid (RA byE w3 (.slice qx x.bl.length cx) x.bl) := Lib.hid (by rw [<- HXv.out]; exact ra_chg_or (ra_below (ra_below HX.out.v B0.out) D2.out) hc3 HXF.out)
 have RM3 := Lib.hid (((HM0.out.below B0.out).below D2.out).chg hc3 HDD.out.1 HDD.out.2)
 clear hp3 hc3 la3 co3 n3 ho C1 C2 C3 C4 lx2
 cases hcalm
 case goes pl v h1 h2 h3 h4 h5 h6 h7 h8 h9 =>
  have hpl : pl = plNo X r 1 := h1.one (planE HK0.out)
  subst hpl
  have hSS : S' = S := h9 (.inl rfl)
  have HIX := Lib.hid (show HI a S' (K + 1) X r from h5)
  have HFR : Hid ((Free S.s -> S.worn = false -> Free S'.s /\ S'.worn = false) /\ (S'.wf = S.wf \/ ¬ Free S.s)) := Lib.hid (by rw [hSS]; exact ⟨fun F q => ⟨F, q⟩, .inl rfl⟩)
  have HW' := Lib.hid (show S'.worn = bw from by rw [hSS]; exact HBW.out)
  have h2' : e = .returned (.agg (anc 1 0 v)) := h2
  clear h2
  subst h2'
  have h3' : OwnA byE w2.heap.size w3 v [] := h3
  clear h1 h4 h5 h6 h7 h8 h9 hSS h3
  show _
  have hv1 := ra_one h3'.ra
  obtain ⟨W4, hW4, hst4, HA4⟩ := an_boxed w3 1 0 hv1
  have OV4 := Lib.hid (h3'.below HA4.out.2)
  have A4 := Lib.hid HA4.out.1
  have B4 := Lib.hid HA4.out.2
  obtain ⟨qv, cv, hvv, _⟩ := ra_shape h3'.ra
  obtain ⟨nv, hnv⟩ : ∃ n, List.length ([] : List Int) = n := ⟨_, rfl⟩
  rw [hnv] at hvv
  subst hvv
  have la4 := A4.out.load
  have ce4 := A4.out.c0
  have SA := Lib.hid (rsame_is (w := W4) (e := 1) (o := 0) (e' := 1) (o' := 0) (v' := .slice none 0 0) (l' := []) OV4.out.ra (own_nil_by 0 W4).ra)
  rw [show decide ((1 : Int) = 1 /\ (0 : Int) = 0 /\ ([] : List Int) = []) = true by decide] at SA
  have RM4 := Lib.hid (RM3.out.below B4.out)
  have HS4 : Hid (w3.heap.size < W4.heap.size /\ w.heap.size < w3.heap.size) := Lib.hid ⟨A4.out.lt, by have := HN0.out.1; have := D2.out.size; have := CH3.out.size; omega⟩
  go_wp2_with fail
  refine (SA.out).mono ?_; rintro e w5 ⟨rfl, b5⟩
  have B5 := Lib.hid b5
  have RM5 := Lib.hid (RM4.out.below b5)
  have CL := Lib.hid (rclone_is _ RM5.out)
  clear b5 la4 ce4 SA hv1
  go_wp2_with fail
  refine (CL.out).mono ?_; rintro e w6 ⟨⟨xw, rfl, hxw, hxw2, hRx⟩, b6⟩
  have RX := Lib.hid hRx
  have RG := Lib.hid (RM5.out.more b6 hxw hxw2)
  have BB := Lib.hid (below_more B5.out b6)
  have A6 := Lib.hid ((A4.out.below BB.out))
  have PX6 := Lib.hid (((PX3.out.below B4.out).below BB.out))
  have HXW : Hid (w3.heap.size < xw /\ xw ≠ g) := Lib.hid (by have := B5.out.size; have := HS4.out; have := HN0.out; omega)
  have B36 := Lib.hid (below_more B4.out BB.out)
  clear hRx hxw hxw2 b6 CL
  have e6 := A6.out.c0
  have o6 := A6.out.c1
  have d6 := A6.out.c2
  have k6 := PX6.out.c0
  have k6o := PX6.out.c1
  have k6n := PX6.out.c2
  have k6v := PX6.out.c4
  rw [HXv.out] at k6v
  have CHW := Lib.hid ((Chg.of_below (below_more B0.out D2.out) (g :: a.D)).trans (CH3.out.mono fun k hk => List.mem_cons_of_mem _ hk))
  have lw := A6.out
  have F := Lib.hid (show SOutH w w6 a S K D g (.returned (.int .i64 0)) from ⟨rfl, S', X, l, r, H3.out.1.below B36.out, HIX.out, H3.out.2.1, H3.out.2.2.1, H3.out.2.2.2, RM3.out.below B36.out, CHW.out.trans (Chg.of_below B36.out _), HFR.out.1, HFR.out.2⟩)
  generalize x.d = xd at *
  generalize x.o = xo at *
  generalize x.nn = xn at *
  cases bw
  . go_wp2_with fail
    go_ret
    exact F.out
  . go_wp2_with fail
    go_ret
    exact F.out
 case worn pl v h1 h2 h3 h4 h5 h6 =>
  have hpl : pl = plNo X r 1 := h1.one (planE HK0.out)
  rw [hpl] at h4; cases h4
 case wears pl v h1 h2 h3 h4 h5 h6 h7 h8 h9 =>
  have hpl : pl = plNo X r 1 := h1.one (planE HK0.out)
  rw [hpl] at h4; cases h4.1
theorem step_free {w : World} {a : Ha} {S : Hs} {K : Nat} {X : List Int} {r : Nat} {D : List Nat} {g : Nat} {l : List Bk} (x : Px) (hp : Hp w a S) (hi : HI a S K X r) (hK : K < 1000) (hco : S.s.comes = false) (hm : Rm w D g X l (r : Int)) (hD : ∀ k ∈ a.D, k ∈ D) (hg : g ∉ a.D) (hx : PxOk w x) (hxf : x.bl = [] \/ ∀ k, x.v.ownBlock = some k -> k ∉ a.D) (hk : x.d = 2) :
 Calls Tryz.prog 17 #[.pointer (some ⟨a.z, 0, none⟩), .pointer (some ⟨g, 0, none⟩), .agg (pxc x)] w fun e w' => SOutH w w' a S K D g e := by
 obtain ⟨W0, hW0⟩ : ∃ W0, w.alloc (.cells (pxc x) 37) = W0 := ⟨_, rfl⟩
 have B0 := Lib.hid (show Below w.heap.size w W0 from by rw [<- hW0]; exact bal (Below.refl _ _))
 have PX := Lib.hid (show Pxv W0 w.heap.size x from by rw [<- hW0]; exact Pxv.new w x)
 obtain ⟨qx, cx, hxv, _⟩ := ra_shape hx.v
 have HX := Lib.hid hx
 have HXF := Lib.hid hxf
 have HI0 := Lib.hid hi
 have HP0 := Lib.hid hp
 have HM0 := Lib.hid hm
 have HKK := Lib.hid hK
 have HCO := Lib.hid hco
 have HDD := Lib.hid (And.intro hD hg)
 have HB := Lib.hid (show blkF X = some l from hm.hB)
 have C1 := Lib.hid (hWords_is (hp.below B0.out).hb hi.num hi.hc.lg hi.live hi.hc.has)
 have C2 := Lib.hid (fun w' (hb : Below W0.heap.size W0 w') => hcnt_is ((hp.below B0.out).below hb) (by have := hi.cn; have := hi.num.N; omega))
 have C3 := Lib.hid (fun w' (hb : Below W0.heap.size W0 w') => hworn_is ((hp.below B0.out).below hb) hi.live hi.hc.lg.r1)
 have C4 := Lib.hid (fun w' (hb : Below W0.heap.size W0 w') => hdo_is x ((hp.below B0.out).below hb) hi hK ((hx.below B0.out).below hb))
 have LX : Hid (∀ w', Pxv w' w.heap.size x -> (pxLoad (.pointer (some ⟨w.heap.size, 0, none⟩))).run Tryz.prog w' = .ok (.agg (pxc x)) w') := Lib.hid fun w' h => run_pxLoad fun j u hj => by rw [Whole.at_ h, Nat.zero_add, <- hj]; simp [pxc]
 have HXv := Lib.hid hxv
 obtain ⟨bw, hbw⟩ : ∃ b, S.worn = b := ⟨_, rfl⟩
 rw [hbw] at C3
 have HBW := Lib.hid hbw
 clear hp hi hK hco hm hD hg hx hxf hbw hxv
 obtain ⟨z, hz⟩ : ∃ z, a.z = z := ⟨_, rfl⟩
 have HZ := Lib.hid hz
 rw [hz] at C1 C2 C3 C4 ⊢
 clear hz
 obtain ⟨xc, hxc⟩ : ∃ xc, pxc x = xc := ⟨_, rfl⟩
 have HXC := Lib.hid hxc
 rw [hxc] at C4 LX hW0 ⊢
 clear hxc
 have HK0 := Lib.hid hk
 clear hk
 go_enter Tryz.func17, Tryz.ntmps17
 go_wp2_with fail
 refine (C1.out).mono ?_; rintro e w1 ⟨⟨v1, rfl, o1⟩, b1⟩
 have D1 := Lib.hid b1
 have O1 := Lib.hid o1
 obtain ⟨q1, c1, rfl⟩ := o1.shape
 clear o1 b1
 go_wp2_with fail
 refine (C2.out _ D1.out).mono ?_; rintro e w2 ⟨⟨v2, rfl, o2⟩, b2⟩
 have D2 := Lib.hid (below_more D1.out b2)
 have O1b := Lib.hid (O1.out.below b2)
 have O2 := Lib.hid o2
 obtain ⟨q2, c2, rfl, _⟩ := o2.ri
 clear o2 b2
 go_wp2_with fail
 refine (C3.out _ D2.out).mono ?_; rintro e w3 ⟨rfl, rfl⟩
 have lx2 := LX.out _ (PX.out.below D2.out)
 go_wp2_with fail
 refine (C4.out _ D2.out).mono ?_; rintro e w3 ho
 obtain ⟨S', hp3, hc3, la3, co3, n3, hcalm⟩ := do_calm HI0.out HKK.out HCO.out ho
 have H3 := Lib.hid (And.intro hp3 (And.intro la3 (And.intro co3 n3)))
 have CH3 := Lib.hid hc3
 have HN0 : Hid (w.heap.size < W0.heap.size /\ (∀ k ∈ a.D, k < w.heap.size) /\ g < w.heap.size) := Lib.hid ⟨PX.out.lt, fun k hk => HM0.out.dlt k (HDD.out.1 k hk), HM0.out.dlt g HM0.out.gD⟩
 have PX3 := Lib.hid ((PX.out.below D2.out).chg hc3 (fun q => by have := HN0.out.2.1 _ q; omega))
 have OW3 := Lib.hid (own_chg_u O1b.out hc3 (fun k hk => by have := HN0.out.2.1 _ hk; have := HN0.out.1; omega))
 have OI3 := Lib.hid (own_chg_h O2.out hc3 (fun k hk => by have := HN0.out.2.1 _ hk; have := HN0.out.1; have := D1.out.size; omega))
 have XV3 : Hid (RA byE w3 (.slice qx x.bl.length cx) x.bl) := Lib.hid (by rw [<- HXv.out]; exact ra_chg_or (ra_below (ra_below HX.out.v B0.out) D2.out) hc3 HXF.out)
 have RM3 := Lib.hid (((HM0.out.below B0.out).below D2.out).chg hc3 HDD.out.1 HDD.out.2)
 clear hp3 hc3 la3 co3 n3 ho C1 C2 C3 C4 lx2
 cases hcalm
 case goes pl v h1 h2 h3 h4 h5 h6 h7 h8 h9 =>
  have hd : x.d = 2 := HK0.out
  have hi0 := HI0.out
  rw [hd] at h1
  have WP := Lib.hid (want2 hi0.hc.ok HB.out h1)
  have hoff := WP.out.off
  have hdat := WP.out.data
  obtain ⟨Q, hQ⟩ : ∃ Q, feQ l x.o r = Q := ⟨_, rfl⟩
  rw [hQ] at WP
  have PR : Hid (Q ≠ 0 -> pl.X = X /\ pl.r = r) := Lib.hid fun q => by
   have p := plan_rest h1 (fun _ => by rw [WP.out.e]; exact q)
   exact ⟨p.1, p.2.1⟩
  have HIX : Hid (HI a S' (K + 1) pl.X pl.r) := Lib.hid h5
  have HFR : Hid ((Free S.s -> S.worn = false -> Free S'.s /\ S'.worn = false) /\ (S'.wf = S.wf \/ ¬ Free S.s)) := Lib.hid ⟨fun F q => by
   have hw2 := worn_no q
   obtain ⟨f1, f2⟩ := h7 F hw2.2
   exact ⟨f1, by unfold Hs.worn; rw [h8, hw2.1, f2]; rfl⟩, .inl h8⟩
  have HCH : Hid (pl.ch = true -> bw = false) := Lib.hid fun q => by rw [<- HBW.out]; exact h4 q
  rw [hoff, WP.out.e] at h2
  rw [hdat] at h3
  subst h2
  have h3' := h3
  clear h1 h3 h4 h5 h6 h7 h8 h9 hoff hdat hi0 hd
  have hv1 := ra_one h3'.ra
  obtain ⟨W4, hW4, hst4, HA4⟩ := an_boxed w3 Q 0 hv1
  have OV4 := Lib.hid (h3'.below HA4.out.2)
  have A4 := Lib.hid HA4.out.1
  have B4 := Lib.hid HA4.out.2
  obtain ⟨qv, cv, hvv, _⟩ := ra_shape h3'.ra
  obtain ⟨nv, hnv⟩ : ∃ n, List.length ([] : List Int) = n := ⟨_, rfl⟩
  rw [hnv] at hvv
  subst hvv
  have la4 := A4.out.load
  have ce4 := A4.out.c0
  have SA := Lib.hid (rsame_is (w := W4) (e := Q) (o := 0) (e' := Q) (o' := 0) (v' := .slice none 0 0) (l' := []) OV4.out.ra (own_nil_by 0 W4).ra)
  rw [show decide ((Q : Int) = Q /\ (0 : Int) = 0 /\ ([] : List Int) = []) = true by simp] at SA
  have RM4 := Lib.hid (RM3.out.below B4.out)
  have HS4 : Hid (w3.heap.size < W4.heap.size /\ w.heap.size < w3.heap.size) := Lib.hid ⟨A4.out.lt, by have := HN0.out.1; have := D2.out.size; have := CH3.out.size; omega⟩
  go_wp2_with fail
  refine (SA.out).mono ?_; rintro e w5 ⟨rfl, b5⟩
  have B5 := Lib.hid b5
  have RM5 := Lib.hid (RM4.out.below b5)
  have CL := Lib.hid (rclone_is _ RM5.out)
  clear b5 la4 ce4 SA hv1
  go_wp2_with fail
  refine (CL.out).mono ?_; rintro e w6 ⟨⟨xw, rfl, hxw, hxw2, hRx⟩, b6⟩
  have RX := Lib.hid hRx
  have RG := Lib.hid (RM5.out.more b6 hxw hxw2)
  have BB := Lib.hid (below_more B5.out b6)
  have A6 := Lib.hid ((A4.out.below BB.out))
  have PX6 := Lib.hid (((PX3.out.below B4.out).below BB.out))
  have HXW : Hid (w3.heap.size < xw /\ xw ≠ g) := Lib.hid (by have := B5.out.size; have := HS4.out; have := HN0.out; omega)
  have B36 := Lib.hid (below_more B4.out BB.out)
  clear hRx hxw hxw2 b6 CL
  have e6 := A6.out.c0
  have o6 := A6.out.c1
  have d6 := A6.out.c2
  have k6 := PX6.out.c0
  have k6o := PX6.out.c1
  have k6n := PX6.out.c2
  have k6v := PX6.out.c4
  rw [HXv.out] at k6v
  have CHW := Lib.hid ((Chg.of_below (below_more B0.out D2.out) (g :: a.D)).trans (CH3.out.mono fun k hk => List.mem_cons_of_mem _ hk))
  have CA := Lib.hid (rmfree_is x.o w6 RX.out)
  rw [hQ] at CA
  rw [HK0.out] at k6
  go_wp2_with fail
  refine (CA.out).mono ?_; rintro e w7 ⟨rfl, hR7, c7⟩
  have A7 := Lib.hid (A6.out.chg c7 (by have := HXW.out; simp; omega))
  have PX7 := Lib.hid (PX6.out.chg c7 (by have := HXW.out; have := HS4.out; simp; omega))
  have B37 := Lib.hid (c7.below B36.out B36.out.size (fun k hk => by rw [List.mem_singleton.1 hk]; have := HXW.out; omega))
  have RG7 := Lib.hid (RG.out.chg c7 (fun k hk => by rw [List.mem_singleton.1 hk]; exact List.mem_cons_self ..) (by have := HXW.out; simp; omega))
  have R7 := Lib.hid hR7
  clear hR7 c7 e6 o6 d6 k6 k6o k6n k6v
  have e7 := A7.out.c0
  have k7 := PX7.out.c0
  have k7v := PX7.out.c4
  rw [HXv.out] at k7v
  rw [HK0.out] at k7
  by_cases h0 : Q = 0
  . subst h0
    have FE := Lib.hid (fun wf (c : Chg [g] w3 wf) (m : Rm wf D g pl.X (feB l x.o r) ((pl.r : Nat) : Int)) => sout_fin H3.out.1 RM3.out HDD.out.2 H3.out.2 CHW.out HIX.out HFR.out c m)
    have bd : Below w7.heap.size w7 w7.drew := (Below.refl _ _).drew
    obtain ⟨qt, nt, ct, t1, t2, t3, t4, t5, t6⟩ := Rm.take2 (RG7.out.below bd) (R7.out.below bd) (fun k hk => hk)
    obtain ⟨mv, mW, _⟩ := (RG7.out.below bd).rows
    have hxg : xw ≠ g := HXW.out.2
    have hgx : g ≠ xw := fun q => hxg q.symm
    have m0 : w7.drew.cell? ⟨g, 0, none⟩ = some mv := by rw [Whole.at_ mW]; rfl
    have m1 : w7.drew.cell? ⟨g, 1, none⟩ = some (.int .i64 r) := by rw [Whole.at_ mW]; rfl
    have f0 := Whole.free mW 0
    have f1 := Whole.free mW 1
    have m0' : w7.cell? ⟨g, 0, none⟩ = some mv := m0
    have m1' : w7.cell? ⟨g, 1, none⟩ = some (.int .i64 r) := m1
    have f0' : w7.frozen? ⟨g, 0, none⟩ = false := f0
    have f1' : w7.frozen? ⟨g, 1, none⟩ = false := f1
    have t1' : w7.cell? ⟨xw, 0, none⟩ = some (.slice qt nt ct) := t1
    have t2' : w7.cell? ⟨xw, 1, none⟩ = some (.int .i64 r) := t2
    have FA : Hid (SOutH w ((w7.drew.setCell ⟨g, 0, none⟩ (.slice qt nt ct)).setCell ⟨g, 1, none⟩ (.int .i64 r)) a S K D g (.returned (.int .i64 0)) /\ SOutH w ((w7.drew.setCell ⟨g, 1, none⟩ (.int .i64 r)).setCell ⟨g, 0, none⟩ (.slice qt nt ct)) a S K D g (.returned (.int .i64 0))) := Lib.hid (by
     have q : Chg [g] w3 w7.drew := Chg.of_below (B37.out.drew) [g]
     have hX := WP.out.X
     have hr := WP.out.r
     refine ⟨FE.out _ (q.trans t5) ?_, FE.out _ (q.trans t6) ?_⟩
     . rw [hX, hr]; exact t3.less_h (fun k hk => List.mem_cons_of_mem _ hk) HM0.out.gD
     . rw [hX, hr]; exact t4.less_h (fun k hk => List.mem_cons_of_mem _ hk) HM0.out.gD)
    clear t3 t4 t5 t6 mW bd A7 PX7 FE
    have hb0 : bw = false := HCH.out (WP.out.ch.2 ⟨rfl, rfl⟩)
    subst hb0
    clear hQ
    go_wp2
    go_region_law (fail)
    all_goals
     go_wp2
     go_ret
     first | exact FA.out.1 | exact FA.out.2
  . have j0 : (Q == 0) = false := beq_eq_false_iff_ne.2 h0
    have j3 : (Q == 3) = false := beq_eq_false_iff_ne.2 WP.out.n3
    have F : Hid (SOutH w w7 a S K D g (.returned (.int .i64 0))) := Lib.hid (sout_fin H3.out.1 RM3.out HDD.out.2 H3.out.2 CHW.out HIX.out HFR.out (Chg.of_below B37.out [g]) (by rw [(PR.out h0).1, (PR.out h0).2]; exact RM3.out.below B37.out))
    clear h0 hQ
    cases bw
    . go_wp2_with fail
      go_ret
      exact F.out
    . go_wp2_with fail
      go_ret
      exact F.out
 case worn pl v h1 h2 h3 h4 h5 h6 =>
  have hd : x.d = 2 := HK0.out
  have hi0 := HI0.out
  rw [hd] at h1
  have WP := Lib.hid (want2 hi0.hc.ok HB.out h1)
  have hoff := WP.out.off
  have hdat := WP.out.data
  obtain ⟨Q, hQ⟩ : ∃ Q, feQ l x.o r = Q := ⟨_, rfl⟩
  rw [hQ] at WP
  have HIX : Hid (HI a S' (K + 1) X r) := Lib.hid (by have := HKK.out; rw [h6]; exact hi0.more (by omega) (by omega))
  have HFR : Hid ((Free S.s -> S.worn = false -> Free S'.s /\ S'.worn = false) /\ (S'.wf = S.wf \/ ¬ Free S.s)) := Lib.hid (by rw [h6]; exact ⟨fun F q => (by rw [h5] at q; cases q), .inl rfl⟩)
  obtain rfl : bw = true := by rw [<- HBW.out]; exact h5
  obtain ⟨hq0, hnon⟩ := WP.out.ch.1 h4
  have h3' := h3
  subst h2
  clear h1 h3 h4 h5 h6 hoff hdat hi0 hd
  have hv1 := ra_one h3'.ra
  obtain ⟨W4, hW4, hst4, HA4⟩ := an_boxed w3 3 0 hv1
  have OV4 := Lib.hid (h3'.below HA4.out.2)
  have A4 := Lib.hid HA4.out.1
  have B4 := Lib.hid HA4.out.2
  obtain ⟨qv, cv, hvv, _⟩ := ra_shape h3'.ra
  obtain ⟨nv, hnv⟩ : ∃ n, List.length ([] : List Int) = n := ⟨_, rfl⟩
  rw [hnv] at hvv
  subst hvv
  have la4 := A4.out.load
  have ce4 := A4.out.c0
  have SA := Lib.hid (rsame_is (w := W4) (e := 3) (o := 0) (e' := 3) (o' := 0) (v' := .slice none 0 0) (l' := []) OV4.out.ra (own_nil_by 0 W4).ra)
  rw [show decide ((3 : Int) = 3 /\ (0 : Int) = 0 /\ ([] : List Int) = []) = true by decide] at SA
  have RM4 := Lib.hid (RM3.out.below B4.out)
  have HS4 : Hid (w3.heap.size < W4.heap.size /\ w.heap.size < w3.heap.size) := Lib.hid ⟨A4.out.lt, by have := HN0.out.1; have := D2.out.size; have := CH3.out.size; omega⟩
  go_wp2_with fail
  refine (SA.out).mono ?_; rintro e w5 ⟨rfl, b5⟩
  have B5 := Lib.hid b5
  have RM5 := Lib.hid (RM4.out.below b5)
  have CL := Lib.hid (rclone_is _ RM5.out)
  clear b5 la4 ce4 SA hv1
  go_wp2_with fail
  refine (CL.out).mono ?_; rintro e w6 ⟨⟨xw, rfl, hxw, hxw2, hRx⟩, b6⟩
  have RX := Lib.hid hRx
  have RG := Lib.hid (RM5.out.more b6 hxw hxw2)
  have BB := Lib.hid (below_more B5.out b6)
  have A6 := Lib.hid ((A4.out.below BB.out))
  have PX6 := Lib.hid (((PX3.out.below B4.out).below BB.out))
  have HXW : Hid (w3.heap.size < xw /\ xw ≠ g) := Lib.hid (by have := B5.out.size; have := HS4.out; have := HN0.out; omega)
  have B36 := Lib.hid (below_more B4.out BB.out)
  clear hRx hxw hxw2 b6 CL
  have e6 := A6.out.c0
  have o6 := A6.out.c1
  have d6 := A6.out.c2
  have k6 := PX6.out.c0
  have k6o := PX6.out.c1
  have k6n := PX6.out.c2
  have k6v := PX6.out.c4
  rw [HXv.out] at k6v
  have CHW := Lib.hid ((Chg.of_below (below_more B0.out D2.out) (g :: a.D)).trans (CH3.out.mono fun k hk => List.mem_cons_of_mem _ hk))
  have CA := Lib.hid (rmfree_is x.o w6 RX.out)
  rw [hQ] at CA
  rw [hq0] at CA
  rw [HK0.out] at k6
  go_wp2_with fail
  refine (CA.out).mono ?_; rintro e w7 ⟨rfl, hR7, c7⟩
  have A7 := Lib.hid (A6.out.chg c7 (by have := HXW.out; simp; omega))
  have PX7 := Lib.hid (PX6.out.chg c7 (by have := HXW.out; have := HS4.out; simp; omega))
  have B37 := Lib.hid (c7.below B36.out B36.out.size (fun k hk => by rw [List.mem_singleton.1 hk]; have := HXW.out; omega))
  have RG7 := Lib.hid (RG.out.chg c7 (fun k hk => by rw [List.mem_singleton.1 hk]; exact List.mem_cons_self ..) (by have := HXW.out; simp; omega))
  have R7 := Lib.hid hR7
  clear hR7 c7 e6 o6 d6 k6 k6o k6n k6v
  have e7 := A7.out.c0
  have k7 := PX7.out.c0
  have k7v := PX7.out.c4
  rw [HXv.out] at k7v
  rw [HK0.out] at k7
  have F : Hid (SOutH w w7 a S K D g (.returned (.int .i64 0))) := Lib.hid (sout_fin H3.out.1 RM3.out HDD.out.2 H3.out.2 CHW.out HIX.out HFR.out (Chg.of_below B37.out [g]) (RM3.out.below B37.out))
  go_wp2_with fail
  go_ret
  exact F.out
 case wears pl v h1 h2 h3 h4 h5 h6 h7 h8 h9 =>
  have hd : x.d = 2 := HK0.out
  have hi0 := HI0.out
  rw [hd] at h1
  have WP := Lib.hid (want2 hi0.hc.ok HB.out h1)
  have hoff := WP.out.off
  have hdat := WP.out.data
  obtain ⟨Q, hQ⟩ : ∃ Q, feQ l x.o r = Q := ⟨_, rfl⟩
  rw [hQ] at WP
  have HIX : Hid (HI a S' (K + 1) X r) := Lib.hid h6
  have HFR : Hid ((Free S.s -> S.worn = false -> Free S'.s /\ S'.worn = false) /\ (S'.wf = S.wf \/ ¬ Free S.s)) := Lib.hid ⟨fun F => absurd F h9, .inr h9⟩
  obtain rfl : bw = false := by rw [<- HBW.out]; exact h5
  obtain ⟨hq0, hnon⟩ := WP.out.ch.1 h4.1
  have C5 := Lib.hid (fun w' (hb : Below w3.heap.size w3 w') => hworn_is (H3.out.1.below hb) HIX.out.live HIX.out.hc.lg.r1)
  rw [HZ.out, h8] at C5
  have h3' := h3
  subst h2
  clear h1 h3 h4 h5 h6 h7 h8 h9 hoff hdat hi0 hd
  have hv1 := ra_one h3'.ra
  obtain ⟨W4, hW4, hst4, HA4⟩ := an_boxed w3 3 0 hv1
  have OV4 := Lib.hid (h3'.below HA4.out.2)
  have A4 := Lib.hid HA4.out.1
  have B4 := Lib.hid HA4.out.2
  obtain ⟨qv, cv, hvv, _⟩ := ra_shape h3'.ra
  obtain ⟨nv, hnv⟩ : ∃ n, List.length ([] : List Int) = n := ⟨_, rfl⟩
  rw [hnv] at hvv
  subst hvv
  have la4 := A4.out.load
  have ce4 := A4.out.c0
  have SA := Lib.hid (rsame_is (w := W4) (e := 3) (o := 0) (e' := 3) (o' := 0) (v' := .slice none 0 0) (l' := []) OV4.out.ra (own_nil_by 0 W4).ra)
  rw [show decide ((3 : Int) = 3 /\ (0 : Int) = 0 /\ ([] : List Int) = []) = true by decide] at SA
  have RM4 := Lib.hid (RM3.out.below B4.out)
  have HS4 : Hid (w3.heap.size < W4.heap.size /\ w.heap.size < w3.heap.size) := Lib.hid ⟨A4.out.lt, by have := HN0.out.1; have := D2.out.size; have := CH3.out.size; omega⟩
  go_wp2_with fail
  refine (SA.out).mono ?_; rintro e w5 ⟨rfl, b5⟩
  have B5 := Lib.hid b5
  have RM5 := Lib.hid (RM4.out.below b5)
  have CL := Lib.hid (rclone_is _ RM5.out)
  clear b5 la4 ce4 SA hv1
  go_wp2_with fail
  refine (CL.out).mono ?_; rintro e w6 ⟨⟨xw, rfl, hxw, hxw2, hRx⟩, b6⟩
  have RX := Lib.hid hRx
  have RG := Lib.hid (RM5.out.more b6 hxw hxw2)
  have BB := Lib.hid (below_more B5.out b6)
  have A6 := Lib.hid ((A4.out.below BB.out))
  have PX6 := Lib.hid (((PX3.out.below B4.out).below BB.out))
  have HXW : Hid (w3.heap.size < xw /\ xw ≠ g) := Lib.hid (by have := B5.out.size; have := HS4.out; have := HN0.out; omega)
  have B36 := Lib.hid (below_more B4.out BB.out)
  clear hRx hxw hxw2 b6 CL
  have e6 := A6.out.c0
  have o6 := A6.out.c1
  have d6 := A6.out.c2
  have k6 := PX6.out.c0
  have k6o := PX6.out.c1
  have k6n := PX6.out.c2
  have k6v := PX6.out.c4
  rw [HXv.out] at k6v
  have CHW := Lib.hid ((Chg.of_below (below_more B0.out D2.out) (g :: a.D)).trans (CH3.out.mono fun k hk => List.mem_cons_of_mem _ hk))
  have CA := Lib.hid (rmfree_is x.o w6 RX.out)
  rw [hQ] at CA
  rw [hq0] at CA
  rw [HK0.out] at k6
  go_wp2_with fail
  refine (CA.out).mono ?_; rintro e w7 ⟨rfl, hR7, c7⟩
  have A7 := Lib.hid (A6.out.chg c7 (by have := HXW.out; simp; omega))
  have PX7 := Lib.hid (PX6.out.chg c7 (by have := HXW.out; have := HS4.out; simp; omega))
  have B37 := Lib.hid (c7.below B36.out B36.out.size (fun k hk => by rw [List.mem_singleton.1 hk]; have := HXW.out; omega))
  have RG7 := Lib.hid (RG.out.chg c7 (fun k hk => by rw [List.mem_singleton.1 hk]; exact List.mem_cons_self ..) (by have := HXW.out; simp; omega))
  have R7 := Lib.hid hR7
  clear hR7 c7 e6 o6 d6 k6 k6o k6n k6v
  have e7 := A7.out.c0
  have k7 := PX7.out.c0
  have k7v := PX7.out.c4
  rw [HXv.out] at k7v
  rw [HK0.out] at k7
  have F : Hid (SOutH w w7 a S K D g (.returned (.int .i64 0))) := Lib.hid (sout_fin H3.out.1 RM3.out HDD.out.2 H3.out.2 CHW.out HIX.out HFR.out (Chg.of_below B37.out [g]) (RM3.out.below B37.out))
  go_wp2_with fail
  refine (C5.out _ B37.out).mono ?_; rintro e w8 ⟨rfl, rfl⟩
  go_wp2_with fail
  go_ret
  exact F.out
theorem step_root {w : World} {a : Ha} {S : Hs} {K : Nat} {X : List Int} {r : Nat} {D : List Nat} {g : Nat} {l : List Bk} (x : Px) (hp : Hp w a S) (hi : HI a S K X r) (hK : K < 1000) (hco : S.s.comes = false) (hm : Rm w D g X l (r : Int)) (hD : ∀ k ∈ a.D, k ∈ D) (hg : g ∉ a.D) (hx : PxOk w x) (hxf : x.bl = [] \/ ∀ k, x.v.ownBlock = some k -> k ∉ a.D) (hk : x.d = 5) :
 Calls Tryz.prog 17 #[.pointer (some ⟨a.z, 0, none⟩), .pointer (some ⟨g, 0, none⟩), .agg (pxc x)] w fun e w' => SOutH w w' a S K D g e := by
 obtain ⟨W0, hW0⟩ : ∃ W0, w.alloc (.cells (pxc x) 37) = W0 := ⟨_, rfl⟩
 have B0 := Lib.hid (show Below w.heap.size w W0 from by rw [<- hW0]; exact bal (Below.refl _ _))
 have PX := Lib.hid (show Pxv W0 w.heap.size x from by rw [<- hW0]; exact Pxv.new w x)
 obtain ⟨qx, cx, hxv, _⟩ := ra_shape hx.v
 have HX := Lib.hid hx
 have HXF := Lib.hid hxf
 have HI0 := Lib.hid hi
 have HP0 := Lib.hid hp
 have HM0 := Lib.hid hm
 have HKK := Lib.hid hK
 have HCO := Lib.hid hco
 have HDD := Lib.hid (And.intro hD hg)
 have HB := Lib.hid (show blkF X = some l from hm.hB)
 have C1 := Lib.hid (hWords_is (hp.below B0.out).hb hi.num hi.hc.lg hi.live hi.hc.has)
 have C2 := Lib.hid (fun w' (hb : Below W0.heap.size W0 w') => hcnt_is ((hp.below B0.out).below hb) (by have := hi.cn; have := hi.num.N; omega))
 have C3 := Lib.hid (fun w' (hb : Below W0.heap.size W0 w') => hworn_is ((hp.below B0.out).below hb) hi.live hi.hc.lg.r1)
 have C4 := Lib.hid (fun w' (hb : Below W0.heap.size W0 w') => hdo_is x ((hp.below B0.out).below hb) hi hK ((hx.below B0.out).below hb))
 have LX : Hid (∀ w', Pxv w' w.heap.size x -> (pxLoad (.pointer (some ⟨w.heap.size, 0, none⟩))).run Tryz.prog w' = .ok (.agg (pxc x)) w') := Lib.hid fun w' h => run_pxLoad fun j u hj => by rw [Whole.at_ h, Nat.zero_add, <- hj]; simp [pxc]
 have HXv := Lib.hid hxv
 obtain ⟨bw, hbw⟩ : ∃ b, S.worn = b := ⟨_, rfl⟩
 rw [hbw] at C3
 have HBW := Lib.hid hbw
 clear hp hi hK hco hm hD hg hx hxf hbw hxv
 obtain ⟨z, hz⟩ : ∃ z, a.z = z := ⟨_, rfl⟩
 have HZ := Lib.hid hz
 rw [hz] at C1 C2 C3 C4 ⊢
 clear hz
 obtain ⟨xc, hxc⟩ : ∃ xc, pxc x = xc := ⟨_, rfl⟩
 have HXC := Lib.hid hxc
 rw [hxc] at C4 LX hW0 ⊢
 clear hxc
 have HK0 := Lib.hid hk
 clear hk
 go_enter Tryz.func17, Tryz.ntmps17
 go_wp2_with fail
 refine (C1.out).mono ?_; rintro e w1 ⟨⟨v1, rfl, o1⟩, b1⟩
 have D1 := Lib.hid b1
 have O1 := Lib.hid o1
 obtain ⟨q1, c1, rfl⟩ := o1.shape
 clear o1 b1
 go_wp2_with fail
 refine (C2.out _ D1.out).mono ?_; rintro e w2 ⟨⟨v2, rfl, o2⟩, b2⟩
 have D2 := Lib.hid (below_more D1.out b2)
 have O1b := Lib.hid (O1.out.below b2)
 have O2 := Lib.hid o2
 obtain ⟨q2, c2, rfl, _⟩ := o2.ri
 clear o2 b2
 go_wp2_with fail
 refine (C3.out _ D2.out).mono ?_; rintro e w3 ⟨rfl, rfl⟩
 have lx2 := LX.out _ (PX.out.below D2.out)
 go_wp2_with fail
 refine (C4.out _ D2.out).mono ?_; rintro e w3 ho
 obtain ⟨S', hp3, hc3, la3, co3, n3, hcalm⟩ := do_calm HI0.out HKK.out HCO.out ho
 have H3 := Lib.hid (And.intro hp3 (And.intro la3 (And.intro co3 n3)))
 have CH3 := Lib.hid hc3
 have HN0 : Hid (w.heap.size < W0.heap.size /\ (∀ k ∈ a.D, k < w.heap.size) /\ g < w.heap.size) := Lib.hid ⟨PX.out.lt, fun k hk => HM0.out.dlt k (HDD.out.1 k hk), HM0.out.dlt g HM0.out.gD⟩
 have PX3 := Lib.hid ((PX.out.below D2.out).chg hc3 (fun q => by have := HN0.out.2.1 _ q; omega))
 have OW3 := Lib.hid (own_chg_u O1b.out hc3 (fun k hk => by have := HN0.out.2.1 _ hk; have := HN0.out.1; omega))
 have OI3 := Lib.hid (own_chg_h O2.out hc3 (fun k hk => by have := HN0.out.2.1 _ hk; have := HN0.out.1; have := D1.out.size; omega))
 have XV3 : Hid (RA byE w3 (.slice qx x.bl.length cx) x.bl) := Lib.hid (by rw [<- HXv.out]; exact ra_chg_or (ra_below (ra_below HX.out.v B0.out) D2.out) hc3 HXF.out)
 have RM3 := Lib.hid (((HM0.out.below B0.out).below D2.out).chg hc3 HDD.out.1 HDD.out.2)
 clear hp3 hc3 la3 co3 n3 ho C1 C2 C3 C4 lx2
 cases hcalm
 case goes pl v h1 h2 h3 h4 h5 h6 h7 h8 h9 =>
  have hd : x.d = 5 := HK0.out
  have hi0 := HI0.out
  rw [hd] at h1
  have WP := Lib.hid (want5 HB.out h1)
  have hoff := WP.out.off
  have hdat := WP.out.data
  obtain ⟨Q, hQ⟩ : ∃ Q, srQ l x.o = Q := ⟨_, rfl⟩
  rw [hQ] at WP
  have PR : Hid (Q ≠ 0 -> pl.X = X /\ pl.r = r) := Lib.hid fun q => by
   have p := plan_rest h1 (fun _ => by rw [WP.out.e]; exact q)
   exact ⟨p.1, p.2.1⟩
  have HIX : Hid (HI a S' (K + 1) pl.X pl.r) := Lib.hid h5
  have HFR : Hid ((Free S.s -> S.worn = false -> Free S'.s /\ S'.worn = false) /\ (S'.wf = S.wf \/ ¬ Free S.s)) := Lib.hid ⟨fun F q => by
   have hw2 := worn_no q
   obtain ⟨f1, f2⟩ := h7 F hw2.2
   exact ⟨f1, by unfold Hs.worn; rw [h8, hw2.1, f2]; rfl⟩, .inl h8⟩
  have HCH : Hid (pl.ch = true -> bw = false) := Lib.hid fun q => by rw [<- HBW.out]; exact h4 q
  rw [hoff, WP.out.e] at h2
  rw [hdat] at h3
  subst h2
  have h3' := h3
  clear h1 h3 h4 h5 h6 h7 h8 h9 hoff hdat hi0 hd
  have hv1 := ra_one h3'.ra
  obtain ⟨W4, hW4, hst4, HA4⟩ := an_boxed w3 Q 0 hv1
  have OV4 := Lib.hid (h3'.below HA4.out.2)
  have A4 := Lib.hid HA4.out.1
  have B4 := Lib.hid HA4.out.2
  obtain ⟨qv, cv, hvv, _⟩ := ra_shape h3'.ra
  obtain ⟨nv, hnv⟩ : ∃ n, List.length ([] : List Int) = n := ⟨_, rfl⟩
  rw [hnv] at hvv
  subst hvv
  have la4 := A4.out.load
  have ce4 := A4.out.c0
  have SA := Lib.hid (rsame_is (w := W4) (e := Q) (o := 0) (e' := Q) (o' := 0) (v' := .slice none 0 0) (l' := []) OV4.out.ra (own_nil_by 0 W4).ra)
  rw [show decide ((Q : Int) = Q /\ (0 : Int) = 0 /\ ([] : List Int) = []) = true by simp] at SA
  have RM4 := Lib.hid (RM3.out.below B4.out)
  have HS4 : Hid (w3.heap.size < W4.heap.size /\ w.heap.size < w3.heap.size) := Lib.hid ⟨A4.out.lt, by have := HN0.out.1; have := D2.out.size; have := CH3.out.size; omega⟩
  go_wp2_with fail
  refine (SA.out).mono ?_; rintro e w5 ⟨rfl, b5⟩
  have B5 := Lib.hid b5
  have RM5 := Lib.hid (RM4.out.below b5)
  have CL := Lib.hid (rclone_is _ RM5.out)
  clear b5 la4 ce4 SA hv1
  go_wp2_with fail
  refine (CL.out).mono ?_; rintro e w6 ⟨⟨xw, rfl, hxw, hxw2, hRx⟩, b6⟩
  have RX := Lib.hid hRx
  have RG := Lib.hid (RM5.out.more b6 hxw hxw2)
  have BB := Lib.hid (below_more B5.out b6)
  have A6 := Lib.hid ((A4.out.below BB.out))
  have PX6 := Lib.hid (((PX3.out.below B4.out).below BB.out))
  have HXW : Hid (w3.heap.size < xw /\ xw ≠ g) := Lib.hid (by have := B5.out.size; have := HS4.out; have := HN0.out; omega)
  have B36 := Lib.hid (below_more B4.out BB.out)
  clear hRx hxw hxw2 b6 CL
  have e6 := A6.out.c0
  have o6 := A6.out.c1
  have d6 := A6.out.c2
  have k6 := PX6.out.c0
  have k6o := PX6.out.c1
  have k6n := PX6.out.c2
  have k6v := PX6.out.c4
  rw [HXv.out] at k6v
  have CHW := Lib.hid ((Chg.of_below (below_more B0.out D2.out) (g :: a.D)).trans (CH3.out.mono fun k hk => List.mem_cons_of_mem _ hk))
  have CA := Lib.hid (rmsetr_is x.o w6 RX.out)
  rw [hQ] at CA
  rw [HK0.out] at k6
  go_wp2_with fail
  refine (CA.out).mono ?_; rintro e w7 ⟨rfl, hR7, c7⟩
  have A7 := Lib.hid (A6.out.chg c7 (by have := HXW.out; simp; omega))
  have PX7 := Lib.hid (PX6.out.chg c7 (by have := HXW.out; have := HS4.out; simp; omega))
  have B37 := Lib.hid (c7.below B36.out B36.out.size (fun k hk => by rw [List.mem_singleton.1 hk]; have := HXW.out; omega))
  have RG7 := Lib.hid (RG.out.chg c7 (fun k hk => by rw [List.mem_singleton.1 hk]; exact List.mem_cons_self ..) (by have := HXW.out; simp; omega))
  have R7 := Lib.hid hR7
  clear hR7 c7 e6 o6 d6 k6 k6o k6n k6v
  have e7 := A7.out.c0
  have k7 := PX7.out.c0
  have k7v := PX7.out.c4
  rw [HXv.out] at k7v
  rw [HK0.out] at k7
  by_cases h0 : Q = 0
  . subst h0
    rw [if_pos rfl] at R7 WP
    have FE := Lib.hid (fun wf (c : Chg [g] w3 wf) (m : Rm wf D g pl.X l ((pl.r : Nat) : Int)) => sout_fin H3.out.1 RM3.out HDD.out.2 H3.out.2 CHW.out HIX.out HFR.out c m)
    have bd : Below w7.heap.size w7 w7.drew := (Below.refl _ _).drew
    obtain ⟨qt, nt, ct, t1, t2, t3, t4, t5, t6⟩ := Rm.take2 (RG7.out.below bd) (R7.out.below bd) (fun k hk => hk)
    obtain ⟨mv, mW, _⟩ := (RG7.out.below bd).rows
    have hxg : xw ≠ g := HXW.out.2
    have hgx : g ≠ xw := fun q => hxg q.symm
    have m0 : w7.drew.cell? ⟨g, 0, none⟩ = some mv := by rw [Whole.at_ mW]; rfl
    have m1 : w7.drew.cell? ⟨g, 1, none⟩ = some (.int .i64 r) := by rw [Whole.at_ mW]; rfl
    have f0 := Whole.free mW 0
    have f1 := Whole.free mW 1
    have m0' : w7.cell? ⟨g, 0, none⟩ = some mv := m0
    have m1' : w7.cell? ⟨g, 1, none⟩ = some (.int .i64 r) := m1
    have f0' : w7.frozen? ⟨g, 0, none⟩ = false := f0
    have f1' : w7.frozen? ⟨g, 1, none⟩ = false := f1
    have t1' : w7.cell? ⟨xw, 0, none⟩ = some (.slice qt nt ct) := t1
    have t2' : w7.cell? ⟨xw, 1, none⟩ = some (.int .i64 x.o) := t2
    have FA : Hid (SOutH w ((w7.drew.setCell ⟨g, 0, none⟩ (.slice qt nt ct)).setCell ⟨g, 1, none⟩ (.int .i64 x.o)) a S K D g (.returned (.int .i64 0)) /\ SOutH w ((w7.drew.setCell ⟨g, 1, none⟩ (.int .i64 x.o)).setCell ⟨g, 0, none⟩ (.slice qt nt ct)) a S K D g (.returned (.int .i64 0))) := Lib.hid (by
     have q : Chg [g] w3 w7.drew := Chg.of_below (B37.out.drew) [g]
     have hX := WP.out.X
     have hr := WP.out.r
     refine ⟨FE.out _ (q.trans t5) ?_, FE.out _ (q.trans t6) ?_⟩
     . rw [hX, hr]; exact t3.less_h (fun k hk => List.mem_cons_of_mem _ hk) HM0.out.gD
     . rw [hX, hr]; exact t4.less_h (fun k hk => List.mem_cons_of_mem _ hk) HM0.out.gD)
    clear t3 t4 t5 t6 mW bd A7 PX7 FE
    have hb0 : bw = false := HCH.out (WP.out.ch.2 ⟨rfl, rfl⟩)
    subst hb0
    clear hQ
    go_wp2
    go_region_law (fail)
    all_goals
     go_wp2
     go_ret
     first | exact FA.out.1 | exact FA.out.2
  . have j0 : (Q == 0) = false := beq_eq_false_iff_ne.2 h0
    have j3 : (Q == 3) = false := beq_eq_false_iff_ne.2 WP.out.n3
    have F : Hid (SOutH w w7 a S K D g (.returned (.int .i64 0))) := Lib.hid (sout_fin H3.out.1 RM3.out HDD.out.2 H3.out.2 CHW.out HIX.out HFR.out (Chg.of_below B37.out [g]) (by rw [(PR.out h0).1, (PR.out h0).2]; exact RM3.out.below B37.out))
    clear h0 hQ
    cases bw
    . go_wp2_with fail
      go_ret
      exact F.out
    . go_wp2_with fail
      go_ret
      exact F.out
 case worn pl v h1 h2 h3 h4 h5 h6 =>
  have hd : x.d = 5 := HK0.out
  have hi0 := HI0.out
  rw [hd] at h1
  have WP := Lib.hid (want5 HB.out h1)
  have hoff := WP.out.off
  have hdat := WP.out.data
  obtain ⟨Q, hQ⟩ : ∃ Q, srQ l x.o = Q := ⟨_, rfl⟩
  rw [hQ] at WP
  have HIX : Hid (HI a S' (K + 1) X r) := Lib.hid (by have := HKK.out; rw [h6]; exact hi0.more (by omega) (by omega))
  have HFR : Hid ((Free S.s -> S.worn = false -> Free S'.s /\ S'.worn = false) /\ (S'.wf = S.wf \/ ¬ Free S.s)) := Lib.hid (by rw [h6]; exact ⟨fun F q => (by rw [h5] at q; cases q), .inl rfl⟩)
  obtain rfl : bw = true := by rw [<- HBW.out]; exact h5
  obtain ⟨hq0, hnon⟩ := WP.out.ch.1 h4
  have h3' := h3
  subst h2
  clear h1 h3 h4 h5 h6 hoff hdat hi0 hd
  have hv1 := ra_one h3'.ra
  obtain ⟨W4, hW4, hst4, HA4⟩ := an_boxed w3 3 0 hv1
  have OV4 := Lib.hid (h3'.below HA4.out.2)
  have A4 := Lib.hid HA4.out.1
  have B4 := Lib.hid HA4.out.2
  obtain ⟨qv, cv, hvv, _⟩ := ra_shape h3'.ra
  obtain ⟨nv, hnv⟩ : ∃ n, List.length ([] : List Int) = n := ⟨_, rfl⟩
  rw [hnv] at hvv
  subst hvv
  have la4 := A4.out.load
  have ce4 := A4.out.c0
  have SA := Lib.hid (rsame_is (w := W4) (e := 3) (o := 0) (e' := 3) (o' := 0) (v' := .slice none 0 0) (l' := []) OV4.out.ra (own_nil_by 0 W4).ra)
  rw [show decide ((3 : Int) = 3 /\ (0 : Int) = 0 /\ ([] : List Int) = []) = true by decide] at SA
  have RM4 := Lib.hid (RM3.out.below B4.out)
  have HS4 : Hid (w3.heap.size < W4.heap.size /\ w.heap.size < w3.heap.size) := Lib.hid ⟨A4.out.lt, by have := HN0.out.1; have := D2.out.size; have := CH3.out.size; omega⟩
  go_wp2_with fail
  refine (SA.out).mono ?_; rintro e w5 ⟨rfl, b5⟩
  have B5 := Lib.hid b5
  have RM5 := Lib.hid (RM4.out.below b5)
  have CL := Lib.hid (rclone_is _ RM5.out)
  clear b5 la4 ce4 SA hv1
  go_wp2_with fail
  refine (CL.out).mono ?_; rintro e w6 ⟨⟨xw, rfl, hxw, hxw2, hRx⟩, b6⟩
  have RX := Lib.hid hRx
  have RG := Lib.hid (RM5.out.more b6 hxw hxw2)
  have BB := Lib.hid (below_more B5.out b6)
  have A6 := Lib.hid ((A4.out.below BB.out))
  have PX6 := Lib.hid (((PX3.out.below B4.out).below BB.out))
  have HXW : Hid (w3.heap.size < xw /\ xw ≠ g) := Lib.hid (by have := B5.out.size; have := HS4.out; have := HN0.out; omega)
  have B36 := Lib.hid (below_more B4.out BB.out)
  clear hRx hxw hxw2 b6 CL
  have e6 := A6.out.c0
  have o6 := A6.out.c1
  have d6 := A6.out.c2
  have k6 := PX6.out.c0
  have k6o := PX6.out.c1
  have k6n := PX6.out.c2
  have k6v := PX6.out.c4
  rw [HXv.out] at k6v
  have CHW := Lib.hid ((Chg.of_below (below_more B0.out D2.out) (g :: a.D)).trans (CH3.out.mono fun k hk => List.mem_cons_of_mem _ hk))
  have CA := Lib.hid (rmsetr_is x.o w6 RX.out)
  rw [hQ] at CA
  rw [hq0] at CA
  rw [HK0.out] at k6
  go_wp2_with fail
  refine (CA.out).mono ?_; rintro e w7 ⟨rfl, hR7, c7⟩
  have A7 := Lib.hid (A6.out.chg c7 (by have := HXW.out; simp; omega))
  have PX7 := Lib.hid (PX6.out.chg c7 (by have := HXW.out; have := HS4.out; simp; omega))
  have B37 := Lib.hid (c7.below B36.out B36.out.size (fun k hk => by rw [List.mem_singleton.1 hk]; have := HXW.out; omega))
  have RG7 := Lib.hid (RG.out.chg c7 (fun k hk => by rw [List.mem_singleton.1 hk]; exact List.mem_cons_self ..) (by have := HXW.out; simp; omega))
  have R7 := Lib.hid hR7
  clear hR7 c7 e6 o6 d6 k6 k6o k6n k6v
  have e7 := A7.out.c0
  have k7 := PX7.out.c0
  have k7v := PX7.out.c4
  rw [HXv.out] at k7v
  rw [HK0.out] at k7
  have F : Hid (SOutH w w7 a S K D g (.returned (.int .i64 0))) := Lib.hid (sout_fin H3.out.1 RM3.out HDD.out.2 H3.out.2 CHW.out HIX.out HFR.out (Chg.of_below B37.out [g]) (RM3.out.below B37.out))
  go_wp2_with fail
  go_ret
  exact F.out
 case wears pl v h1 h2 h3 h4 h5 h6 h7 h8 h9 =>
  exact absurd HK0.out h4.2.2
theorem step_write {w : World} {a : Ha} {S : Hs} {K : Nat} {X : List Int} {r : Nat} {D : List Nat} {g : Nat} {l : List Bk} (x : Px) (hp : Hp w a S) (hi : HI a S K X r) (hK : K < 1000) (hco : S.s.comes = false) (hm : Rm w D g X l (r : Int)) (hD : ∀ k ∈ a.D, k ∈ D) (hg : g ∉ a.D) (hx : PxOk w x) (hxf : x.bl = [] \/ ∀ k, x.v.ownBlock = some k -> k ∉ a.D) (hk : x.d = 4) :
 Calls Tryz.prog 17 #[.pointer (some ⟨a.z, 0, none⟩), .pointer (some ⟨g, 0, none⟩), .agg (pxc x)] w fun e w' => SOutH w w' a S K D g e := by
 obtain ⟨W0, hW0⟩ : ∃ W0, w.alloc (.cells (pxc x) 37) = W0 := ⟨_, rfl⟩
 have B0 := Lib.hid (show Below w.heap.size w W0 from by rw [<- hW0]; exact bal (Below.refl _ _))
 have PX := Lib.hid (show Pxv W0 w.heap.size x from by rw [<- hW0]; exact Pxv.new w x)
 obtain ⟨qx, cx, hxv, _⟩ := ra_shape hx.v
 have HX := Lib.hid hx
 have HXF := Lib.hid hxf
 have HI0 := Lib.hid hi
 have HP0 := Lib.hid hp
 have HM0 := Lib.hid hm
 have HKK := Lib.hid hK
 have HCO := Lib.hid hco
 have HDD := Lib.hid (And.intro hD hg)
 have HB := Lib.hid (show blkF X = some l from hm.hB)
 have C1 := Lib.hid (hWords_is (hp.below B0.out).hb hi.num hi.hc.lg hi.live hi.hc.has)
 have C2 := Lib.hid (fun w' (hb : Below W0.heap.size W0 w') => hcnt_is ((hp.below B0.out).below hb) (by have := hi.cn; have := hi.num.N; omega))
 have C3 := Lib.hid (fun w' (hb : Below W0.heap.size W0 w') => hworn_is ((hp.below B0.out).below hb) hi.live hi.hc.lg.r1)
 have C4 := Lib.hid (fun w' (hb : Below W0.heap.size W0 w') => hdo_is x ((hp.below B0.out).below hb) hi hK ((hx.below B0.out).below hb))
 have LX : Hid (∀ w', Pxv w' w.heap.size x -> (pxLoad (.pointer (some ⟨w.heap.size, 0, none⟩))).run Tryz.prog w' = .ok (.agg (pxc x)) w') := Lib.hid fun w' h => run_pxLoad fun j u hj => by rw [Whole.at_ h, Nat.zero_add, <- hj]; simp [pxc]
 have HXv := Lib.hid hxv
 obtain ⟨bw, hbw⟩ : ∃ b, S.worn = b := ⟨_, rfl⟩
 rw [hbw] at C3
 have HBW := Lib.hid hbw
 clear hp hi hK hco hm hD hg hx hxf hbw hxv
 obtain ⟨z, hz⟩ : ∃ z, a.z = z := ⟨_, rfl⟩
 have HZ := Lib.hid hz
 rw [hz] at C1 C2 C3 C4 ⊢
 clear hz
 obtain ⟨xc, hxc⟩ : ∃ xc, pxc x = xc := ⟨_, rfl⟩
 have HXC := Lib.hid hxc
 rw [hxc] at C4 LX hW0 ⊢
 clear hxc
 have HK0 := Lib.hid hk
 clear hk
 go_enter Tryz.func17, Tryz.ntmps17
 go_wp2_with fail
 refine (C1.out).mono ?_; rintro e w1 ⟨⟨v1, rfl, o1⟩, b1⟩
 have D1 := Lib.hid b1
 have O1 := Lib.hid o1
 obtain ⟨q1, c1, rfl⟩ := o1.shape
 clear o1 b1
 go_wp2_with fail
 refine (C2.out _ D1.out).mono ?_; rintro e w2 ⟨⟨v2, rfl, o2⟩, b2⟩
 have D2 := Lib.hid (below_more D1.out b2)
 have O1b := Lib.hid (O1.out.below b2)
 have O2 := Lib.hid o2
 obtain ⟨q2, c2, rfl, _⟩ := o2.ri
 clear o2 b2
 go_wp2_with fail
 refine (C3.out _ D2.out).mono ?_; rintro e w3 ⟨rfl, rfl⟩
 have lx2 := LX.out _ (PX.out.below D2.out)
 go_wp2_with fail
 refine (C4.out _ D2.out).mono ?_; rintro e w3 ho
 obtain ⟨S', hp3, hc3, la3, co3, n3, hcalm⟩ := do_calm HI0.out HKK.out HCO.out ho
 have H3 := Lib.hid (And.intro hp3 (And.intro la3 (And.intro co3 n3)))
 have CH3 := Lib.hid hc3
 have HN0 : Hid (w.heap.size < W0.heap.size /\ (∀ k ∈ a.D, k < w.heap.size) /\ g < w.heap.size) := Lib.hid ⟨PX.out.lt, fun k hk => HM0.out.dlt k (HDD.out.1 k hk), HM0.out.dlt g HM0.out.gD⟩
 have PX3 := Lib.hid ((PX.out.below D2.out).chg hc3 (fun q => by have := HN0.out.2.1 _ q; omega))
 have OW3 := Lib.hid (own_chg_u O1b.out hc3 (fun k hk => by have := HN0.out.2.1 _ hk; have := HN0.out.1; omega))
 have OI3 := Lib.hid (own_chg_h O2.out hc3 (fun k hk => by have := HN0.out.2.1 _ hk; have := HN0.out.1; have := D1.out.size; omega))
 have XV3 : Hid (RA byE w3 (.slice qx x.bl.length cx) x.bl) := Lib.hid (by rw [<- HXv.out]; exact ra_chg_or (ra_below (ra_below HX.out.v B0.out) D2.out) hc3 HXF.out)
 have RM3 := Lib.hid (((HM0.out.below B0.out).below D2.out).chg hc3 HDD.out.1 HDD.out.2)
 clear hp3 hc3 la3 co3 n3 ho C1 C2 C3 C4 lx2
 cases hcalm
 case goes pl v h1 h2 h3 h4 h5 h6 h7 h8 h9 =>
  have hd : x.d = 4 := HK0.out
  have hi0 := HI0.out
  rw [hd] at h1
  have W4 := want4 hi0.len.1 hi0.hc.snd hi0.hc.ok HB.out h1
  have WP := Lib.hid W4.1
  have WQ := Lib.hid W4.2
  clear W4
  have hoff := WP.out.off
  have hdat := WP.out.data
  obtain ⟨Q, hQ⟩ : ∃ Q, refF X x.o x.bl.length = Q := ⟨_, rfl⟩
  rw [hQ] at WP
  have PR : Hid (Q ≠ 0 -> pl.X = X /\ pl.r = r) := Lib.hid fun q => by
   have p := plan_rest h1 (fun _ => by rw [WP.out.e]; exact q)
   exact ⟨p.1, p.2.1⟩
  have HIX : Hid (HI a S' (K + 1) pl.X pl.r) := Lib.hid h5
  have HFR : Hid ((Free S.s -> S.worn = false -> Free S'.s /\ S'.worn = false) /\ (S'.wf = S.wf \/ ¬ Free S.s)) := Lib.hid ⟨fun F q => by
   have hw2 := worn_no q
   obtain ⟨f1, f2⟩ := h7 F hw2.2
   exact ⟨f1, by unfold Hs.worn; rw [h8, hw2.1, f2]; rfl⟩, .inl h8⟩
  have HCH : Hid (pl.ch = true -> bw = false) := Lib.hid fun q => by rw [<- HBW.out]; exact h4 q
  rw [hoff, WP.out.e] at h2
  rw [hdat] at h3
  subst h2
  have h3' := h3
  clear h1 h3 h4 h5 h6 h7 h8 h9 hoff hdat hi0 hd
  have hv1 := ra_one h3'.ra
  obtain ⟨W4, hW4, hst4, HA4⟩ := an_boxed w3 Q 0 hv1
  have OV4 := Lib.hid (h3'.below HA4.out.2)
  have A4 := Lib.hid HA4.out.1
  have B4 := Lib.hid HA4.out.2
  obtain ⟨qv, cv, hvv, _⟩ := ra_shape h3'.ra
  obtain ⟨nv, hnv⟩ : ∃ n, List.length ([] : List Int) = n := ⟨_, rfl⟩
  rw [hnv] at hvv
  subst hvv
  have la4 := A4.out.load
  have ce4 := A4.out.c0
  have SA := Lib.hid (rsame_is (w := W4) (e := Q) (o := 0) (e' := Q) (o' := 0) (v' := .slice none 0 0) (l' := []) OV4.out.ra (own_nil_by 0 W4).ra)
  rw [show decide ((Q : Int) = Q /\ (0 : Int) = 0 /\ ([] : List Int) = []) = true by simp] at SA
  have RM4 := Lib.hid (RM3.out.below B4.out)
  have HS4 : Hid (w3.heap.size < W4.heap.size /\ w.heap.size < w3.heap.size) := Lib.hid ⟨A4.out.lt, by have := HN0.out.1; have := D2.out.size; have := CH3.out.size; omega⟩
  go_wp2_with fail
  refine (SA.out).mono ?_; rintro e w5 ⟨rfl, b5⟩
  have B5 := Lib.hid b5
  have RM5 := Lib.hid (RM4.out.below b5)
  have CL := Lib.hid (rclone_is _ RM5.out)
  clear b5 la4 ce4 SA hv1
  go_wp2_with fail
  refine (CL.out).mono ?_; rintro e w6 ⟨⟨xw, rfl, hxw, hxw2, hRx⟩, b6⟩
  have RX := Lib.hid hRx
  have RG := Lib.hid (RM5.out.more b6 hxw hxw2)
  have BB := Lib.hid (below_more B5.out b6)
  have A6 := Lib.hid ((A4.out.below BB.out))
  have PX6 := Lib.hid (((PX3.out.below B4.out).below BB.out))
  have HXW : Hid (w3.heap.size < xw /\ xw ≠ g) := Lib.hid (by have := B5.out.size; have := HS4.out; have := HN0.out; omega)
  have B36 := Lib.hid (below_more B4.out BB.out)
  clear hRx hxw hxw2 b6 CL
  have e6 := A6.out.c0
  have o6 := A6.out.c1
  have d6 := A6.out.c2
  have k6 := PX6.out.c0
  have k6o := PX6.out.c1
  have k6n := PX6.out.c2
  have k6v := PX6.out.c4
  rw [HXv.out] at k6v
  have CHW := Lib.hid ((Chg.of_below (below_more B0.out D2.out) (g :: a.D)).trans (CH3.out.mono fun k hk => List.mem_cons_of_mem _ hk))
  have XV6 := Lib.hid (ra_below XV3.out B36.out)
  have CA := Lib.hid (rmwrite_is x.o x.bl (.slice qx x.bl.length cx) w6 RX.out XV6.out HX.out.len HX.out.o pl.X WQ.out.1 WQ.out.2.1 WQ.out.2.2)
  rw [hQ] at CA
  rw [HK0.out] at k6
  go_wp2_with fail
  refine (CA.out).mono ?_; rintro e w7 ⟨rfl, hR7, c7⟩
  have A7 := Lib.hid (A6.out.chg c7 (by have := HXW.out; simp; omega))
  have PX7 := Lib.hid (PX6.out.chg c7 (by have := HXW.out; have := HS4.out; simp; omega))
  have B37 := Lib.hid (c7.below B36.out B36.out.size (fun k hk => by rw [List.mem_singleton.1 hk]; have := HXW.out; omega))
  have RG7 := Lib.hid (RG.out.chg c7 (fun k hk => by rw [List.mem_singleton.1 hk]; exact List.mem_cons_self ..) (by have := HXW.out; simp; omega))
  have R7 := Lib.hid hR7
  clear hR7 c7 e6 o6 d6 k6 k6o k6n k6v
  have e7 := A7.out.c0
  have k7 := PX7.out.c0
  have k7v := PX7.out.c4
  rw [HXv.out] at k7v
  rw [HK0.out] at k7
  by_cases h0 : Q = 0
  . subst h0
    have FE := Lib.hid (fun wf (c : Chg [g] w3 wf) (m : Rm wf D g pl.X l ((pl.r : Nat) : Int)) => sout_fin H3.out.1 RM3.out HDD.out.2 H3.out.2 CHW.out HIX.out HFR.out c m)
    have bd : Below w7.heap.size w7 w7.drew := (Below.refl _ _).drew
    obtain ⟨qt, nt, ct, t1, t2, t3, t4, t5, t6⟩ := Rm.take2 (RG7.out.below bd) (R7.out.below bd) (fun k hk => hk)
    obtain ⟨mv, mW, _⟩ := (RG7.out.below bd).rows
    have hxg : xw ≠ g := HXW.out.2
    have hgx : g ≠ xw := fun q => hxg q.symm
    have m0 : w7.drew.cell? ⟨g, 0, none⟩ = some mv := by rw [Whole.at_ mW]; rfl
    have m1 : w7.drew.cell? ⟨g, 1, none⟩ = some (.int .i64 r) := by rw [Whole.at_ mW]; rfl
    have f0 := Whole.free mW 0
    have f1 := Whole.free mW 1
    have m0' : w7.cell? ⟨g, 0, none⟩ = some mv := m0
    have m1' : w7.cell? ⟨g, 1, none⟩ = some (.int .i64 r) := m1
    have f0' : w7.frozen? ⟨g, 0, none⟩ = false := f0
    have f1' : w7.frozen? ⟨g, 1, none⟩ = false := f1
    have t1' : w7.cell? ⟨xw, 0, none⟩ = some (.slice qt nt ct) := t1
    have t2' : w7.cell? ⟨xw, 1, none⟩ = some (.int .i64 r) := t2
    have FA : Hid (SOutH w ((w7.drew.setCell ⟨g, 0, none⟩ (.slice qt nt ct)).setCell ⟨g, 1, none⟩ (.int .i64 r)) a S K D g (.returned (.int .i64 0)) /\ SOutH w ((w7.drew.setCell ⟨g, 1, none⟩ (.int .i64 r)).setCell ⟨g, 0, none⟩ (.slice qt nt ct)) a S K D g (.returned (.int .i64 0))) := Lib.hid (by
     have q : Chg [g] w3 w7.drew := Chg.of_below (B37.out.drew) [g]
     have hX := WP.out.X
     have hr := WP.out.r
     refine ⟨FE.out _ (q.trans t5) ?_, FE.out _ (q.trans t6) ?_⟩
     . rw [hX, hr]; exact t3.less_h (fun k hk => List.mem_cons_of_mem _ hk) HM0.out.gD
     . rw [hX, hr]; exact t4.less_h (fun k hk => List.mem_cons_of_mem _ hk) HM0.out.gD)
    clear t3 t4 t5 t6 mW bd A7 PX7 FE
    clear hQ
    by_cases hl0 : x.bl.length = 0
    . rw [hl0] at k7v
      cases bw
      . go_wp2
        go_region_law (fail)
        all_goals
         go_wp2
         go_ret
         first | exact FA.out.1 | exact FA.out.2
      . go_wp2
        go_region_law (fail)
        all_goals
         go_wp2
         go_ret
         first | exact FA.out.1 | exact FA.out.2
    . have hb0 : bw = false := HCH.out (WP.out.ch.2 ⟨rfl, decide_eq_false hl0⟩)
      subst hb0
      have jl : (((x.bl.length : Nat) : Int) == 0) = false := beq_eq_false_iff_ne.2 (by omega)
      go_wp2
      go_region_law (fail)
      all_goals
       go_wp2
       go_ret
       first | exact FA.out.1 | exact FA.out.2
  . have j0 : (Q == 0) = false := beq_eq_false_iff_ne.2 h0
    have j3 : (Q == 3) = false := beq_eq_false_iff_ne.2 WP.out.n3
    have F : Hid (SOutH w w7 a S K D g (.returned (.int .i64 0))) := Lib.hid (sout_fin H3.out.1 RM3.out HDD.out.2 H3.out.2 CHW.out HIX.out HFR.out (Chg.of_below B37.out [g]) (by rw [(PR.out h0).1, (PR.out h0).2]; exact RM3.out.below B37.out))
    clear h0 hQ
    cases bw
    . go_wp2_with fail
      go_ret
      exact F.out
    . go_wp2_with fail
      go_ret
      exact F.out
 case worn pl v h1 h2 h3 h4 h5 h6 =>
  have hd : x.d = 4 := HK0.out
  have hi0 := HI0.out
  rw [hd] at h1
  have W4 := want4 hi0.len.1 hi0.hc.snd hi0.hc.ok HB.out h1
  have WP := Lib.hid W4.1
  have WQ := Lib.hid W4.2
  clear W4
  have hoff := WP.out.off
  have hdat := WP.out.data
  obtain ⟨Q, hQ⟩ : ∃ Q, refF X x.o x.bl.length = Q := ⟨_, rfl⟩
  rw [hQ] at WP
  have HIX : Hid (HI a S' (K + 1) X r) := Lib.hid (by have := HKK.out; rw [h6]; exact hi0.more (by omega) (by omega))
  have HFR : Hid ((Free S.s -> S.worn = false -> Free S'.s /\ S'.worn = false) /\ (S'.wf = S.wf \/ ¬ Free S.s)) := Lib.hid (by rw [h6]; exact ⟨fun F q => (by rw [h5] at q; cases q), .inl rfl⟩)
  obtain rfl : bw = true := by rw [<- HBW.out]; exact h5
  obtain ⟨hq0, hnon⟩ := WP.out.ch.1 h4
  have h3' := h3
  subst h2
  clear h1 h3 h4 h5 h6 hoff hdat hi0 hd
  have hv1 := ra_one h3'.ra
  obtain ⟨W4, hW4, hst4, HA4⟩ := an_boxed w3 3 0 hv1
  have OV4 := Lib.hid (h3'.below HA4.out.2)
  have A4 := Lib.hid HA4.out.1
  have B4 := Lib.hid HA4.out.2
  obtain ⟨qv, cv, hvv, _⟩ := ra_shape h3'.ra
  obtain ⟨nv, hnv⟩ : ∃ n, List.length ([] : List Int) = n := ⟨_, rfl⟩
  rw [hnv] at hvv
  subst hvv
  have la4 := A4.out.load
  have ce4 := A4.out.c0
  have SA := Lib.hid (rsame_is (w := W4) (e := 3) (o := 0) (e' := 3) (o' := 0) (v' := .slice none 0 0) (l' := []) OV4.out.ra (own_nil_by 0 W4).ra)
  rw [show decide ((3 : Int) = 3 /\ (0 : Int) = 0 /\ ([] : List Int) = []) = true by decide] at SA
  have RM4 := Lib.hid (RM3.out.below B4.out)
  have HS4 : Hid (w3.heap.size < W4.heap.size /\ w.heap.size < w3.heap.size) := Lib.hid ⟨A4.out.lt, by have := HN0.out.1; have := D2.out.size; have := CH3.out.size; omega⟩
  go_wp2_with fail
  refine (SA.out).mono ?_; rintro e w5 ⟨rfl, b5⟩
  have B5 := Lib.hid b5
  have RM5 := Lib.hid (RM4.out.below b5)
  have CL := Lib.hid (rclone_is _ RM5.out)
  clear b5 la4 ce4 SA hv1
  go_wp2_with fail
  refine (CL.out).mono ?_; rintro e w6 ⟨⟨xw, rfl, hxw, hxw2, hRx⟩, b6⟩
  have RX := Lib.hid hRx
  have RG := Lib.hid (RM5.out.more b6 hxw hxw2)
  have BB := Lib.hid (below_more B5.out b6)
  have A6 := Lib.hid ((A4.out.below BB.out))
  have PX6 := Lib.hid (((PX3.out.below B4.out).below BB.out))
  have HXW : Hid (w3.heap.size < xw /\ xw ≠ g) := Lib.hid (by have := B5.out.size; have := HS4.out; have := HN0.out; omega)
  have B36 := Lib.hid (below_more B4.out BB.out)
  clear hRx hxw hxw2 b6 CL
  have e6 := A6.out.c0
  have o6 := A6.out.c1
  have d6 := A6.out.c2
  have k6 := PX6.out.c0
  have k6o := PX6.out.c1
  have k6n := PX6.out.c2
  have k6v := PX6.out.c4
  rw [HXv.out] at k6v
  have CHW := Lib.hid ((Chg.of_below (below_more B0.out D2.out) (g :: a.D)).trans (CH3.out.mono fun k hk => List.mem_cons_of_mem _ hk))
  have XV6 := Lib.hid (ra_below XV3.out B36.out)
  have CA := Lib.hid (rmwrite_is x.o x.bl (.slice qx x.bl.length cx) w6 RX.out XV6.out HX.out.len HX.out.o pl.X WQ.out.1 WQ.out.2.1 WQ.out.2.2)
  rw [hQ] at CA
  rw [hq0] at CA
  have hl0 := of_decide_eq_false hnon
  have jl : (((x.bl.length : Nat) : Int) == 0) = false := beq_eq_false_iff_ne.2 (by omega)
  rw [HK0.out] at k6
  go_wp2_with fail
  refine (CA.out).mono ?_; rintro e w7 ⟨rfl, hR7, c7⟩
  have A7 := Lib.hid (A6.out.chg c7 (by have := HXW.out; simp; omega))
  have PX7 := Lib.hid (PX6.out.chg c7 (by have := HXW.out; have := HS4.out; simp; omega))
  have B37 := Lib.hid (c7.below B36.out B36.out.size (fun k hk => by rw [List.mem_singleton.1 hk]; have := HXW.out; omega))
  have RG7 := Lib.hid (RG.out.chg c7 (fun k hk => by rw [List.mem_singleton.1 hk]; exact List.mem_cons_self ..) (by have := HXW.out; simp; omega))
  have R7 := Lib.hid hR7
  clear hR7 c7 e6 o6 d6 k6 k6o k6n k6v
  have e7 := A7.out.c0
  have k7 := PX7.out.c0
  have k7v := PX7.out.c4
  rw [HXv.out] at k7v
  rw [HK0.out] at k7
  have F : Hid (SOutH w w7 a S K D g (.returned (.int .i64 0))) := Lib.hid (sout_fin H3.out.1 RM3.out HDD.out.2 H3.out.2 CHW.out HIX.out HFR.out (Chg.of_below B37.out [g]) (RM3.out.below B37.out))
  go_wp2_with fail
  go_ret
  exact F.out
 case wears pl v h1 h2 h3 h4 h5 h6 h7 h8 h9 =>
  have hd : x.d = 4 := HK0.out
  have hi0 := HI0.out
  rw [hd] at h1
  have W4 := want4 hi0.len.1 hi0.hc.snd hi0.hc.ok HB.out h1
  have WP := Lib.hid W4.1
  have WQ := Lib.hid W4.2
  clear W4
  have hoff := WP.out.off
  have hdat := WP.out.data
  obtain ⟨Q, hQ⟩ : ∃ Q, refF X x.o x.bl.length = Q := ⟨_, rfl⟩
  rw [hQ] at WP
  have HIX : Hid (HI a S' (K + 1) X r) := Lib.hid h6
  have HFR : Hid ((Free S.s -> S.worn = false -> Free S'.s /\ S'.worn = false) /\ (S'.wf = S.wf \/ ¬ Free S.s)) := Lib.hid ⟨fun F => absurd F h9, .inr h9⟩
  obtain rfl : bw = false := by rw [<- HBW.out]; exact h5
  obtain ⟨hq0, hnon⟩ := WP.out.ch.1 h4.1
  have C5 := Lib.hid (fun w' (hb : Below w3.heap.size w3 w') => hworn_is (H3.out.1.below hb) HIX.out.live HIX.out.hc.lg.r1)
  rw [HZ.out, h8] at C5
  have h3' := h3
  subst h2
  clear h1 h3 h4 h5 h6 h7 h8 h9 hoff hdat hi0 hd
  have hv1 := ra_one h3'.ra
  obtain ⟨W4, hW4, hst4, HA4⟩ := an_boxed w3 3 0 hv1
  have OV4 := Lib.hid (h3'.below HA4.out.2)
  have A4 := Lib.hid HA4.out.1
  have B4 := Lib.hid HA4.out.2
  obtain ⟨qv, cv, hvv, _⟩ := ra_shape h3'.ra
  obtain ⟨nv, hnv⟩ : ∃ n, List.length ([] : List Int) = n := ⟨_, rfl⟩
  rw [hnv] at hvv
  subst hvv
  have la4 := A4.out.load
  have ce4 := A4.out.c0
  have SA := Lib.hid (rsame_is (w := W4) (e := 3) (o := 0) (e' := 3) (o' := 0) (v' := .slice none 0 0) (l' := []) OV4.out.ra (own_nil_by 0 W4).ra)
  rw [show decide ((3 : Int) = 3 /\ (0 : Int) = 0 /\ ([] : List Int) = []) = true by decide] at SA
  have RM4 := Lib.hid (RM3.out.below B4.out)
  have HS4 : Hid (w3.heap.size < W4.heap.size /\ w.heap.size < w3.heap.size) := Lib.hid ⟨A4.out.lt, by have := HN0.out.1; have := D2.out.size; have := CH3.out.size; omega⟩
  go_wp2_with fail
  refine (SA.out).mono ?_; rintro e w5 ⟨rfl, b5⟩
  have B5 := Lib.hid b5
  have RM5 := Lib.hid (RM4.out.below b5)
  have CL := Lib.hid (rclone_is _ RM5.out)
  clear b5 la4 ce4 SA hv1
  go_wp2_with fail
  refine (CL.out).mono ?_; rintro e w6 ⟨⟨xw, rfl, hxw, hxw2, hRx⟩, b6⟩
  have RX := Lib.hid hRx
  have RG := Lib.hid (RM5.out.more b6 hxw hxw2)
  have BB := Lib.hid (below_more B5.out b6)
  have A6 := Lib.hid ((A4.out.below BB.out))
  have PX6 := Lib.hid (((PX3.out.below B4.out).below BB.out))
  have HXW : Hid (w3.heap.size < xw /\ xw ≠ g) := Lib.hid (by have := B5.out.size; have := HS4.out; have := HN0.out; omega)
  have B36 := Lib.hid (below_more B4.out BB.out)
  clear hRx hxw hxw2 b6 CL
  have e6 := A6.out.c0
  have o6 := A6.out.c1
  have d6 := A6.out.c2
  have k6 := PX6.out.c0
  have k6o := PX6.out.c1
  have k6n := PX6.out.c2
  have k6v := PX6.out.c4
  rw [HXv.out] at k6v
  have CHW := Lib.hid ((Chg.of_below (below_more B0.out D2.out) (g :: a.D)).trans (CH3.out.mono fun k hk => List.mem_cons_of_mem _ hk))
  have XV6 := Lib.hid (ra_below XV3.out B36.out)
  have CA := Lib.hid (rmwrite_is x.o x.bl (.slice qx x.bl.length cx) w6 RX.out XV6.out HX.out.len HX.out.o pl.X WQ.out.1 WQ.out.2.1 WQ.out.2.2)
  rw [hQ] at CA
  rw [hq0] at CA
  have hl0 := of_decide_eq_false hnon
  have jl : (((x.bl.length : Nat) : Int) == 0) = false := beq_eq_false_iff_ne.2 (by omega)
  rw [HK0.out] at k6
  go_wp2_with fail
  refine (CA.out).mono ?_; rintro e w7 ⟨rfl, hR7, c7⟩
  have A7 := Lib.hid (A6.out.chg c7 (by have := HXW.out; simp; omega))
  have PX7 := Lib.hid (PX6.out.chg c7 (by have := HXW.out; have := HS4.out; simp; omega))
  have B37 := Lib.hid (c7.below B36.out B36.out.size (fun k hk => by rw [List.mem_singleton.1 hk]; have := HXW.out; omega))
  have RG7 := Lib.hid (RG.out.chg c7 (fun k hk => by rw [List.mem_singleton.1 hk]; exact List.mem_cons_self ..) (by have := HXW.out; simp; omega))
  have R7 := Lib.hid hR7
  clear hR7 c7 e6 o6 d6 k6 k6o k6n k6v
  have e7 := A7.out.c0
  have k7 := PX7.out.c0
  have k7v := PX7.out.c4
  rw [HXv.out] at k7v
  rw [HK0.out] at k7
  have F : Hid (SOutH w w7 a S K D g (.returned (.int .i64 0))) := Lib.hid (sout_fin H3.out.1 RM3.out HDD.out.2 H3.out.2 CHW.out HIX.out HFR.out (Chg.of_below B37.out [g]) (RM3.out.below B37.out))
  go_wp2_with fail
  refine (C5.out _ B37.out).mono ?_; rintro e w8 ⟨rfl, rfl⟩
  go_wp2_with fail
  go_ret
  exact F.out
theorem step_read {w : World} {a : Ha} {S : Hs} {K : Nat} {X : List Int} {r : Nat} {D : List Nat} {g : Nat} {l : List Bk} (x : Px) (hp : Hp w a S) (hi : HI a S K X r) (hK : K < 1000) (hco : S.s.comes = false) (hm : Rm w D g X l (r : Int)) (hD : ∀ k ∈ a.D, k ∈ D) (hg : g ∉ a.D) (hx : PxOk w x) (hxf : x.bl = [] \/ ∀ k, x.v.ownBlock = some k -> k ∉ a.D) (hk : x.d = 3) :
 Calls Tryz.prog 17 #[.pointer (some ⟨a.z, 0, none⟩), .pointer (some ⟨g, 0, none⟩), .agg (pxc x)] w fun e w' => SOutH w w' a S K D g e /\ SOutR w w' a S D g X l r := by
 obtain ⟨W0, hW0⟩ : ∃ W0, w.alloc (.cells (pxc x) 37) = W0 := ⟨_, rfl⟩
 have B0 := Lib.hid (show Below w.heap.size w W0 from by rw [<- hW0]; exact bal (Below.refl _ _))
 have PX := Lib.hid (show Pxv W0 w.heap.size x from by rw [<- hW0]; exact Pxv.new w x)
 obtain ⟨qx, cx, hxv, _⟩ := ra_shape hx.v
 have HX := Lib.hid hx
 have HXF := Lib.hid hxf
 have HI0 := Lib.hid hi
 have HP0 := Lib.hid hp
 have HM0 := Lib.hid hm
 have HKK := Lib.hid hK
 have HCO := Lib.hid hco
 have HDD := Lib.hid (And.intro hD hg)
 have HB := Lib.hid (show blkF X = some l from hm.hB)
 have C1 := Lib.hid (hWords_is (hp.below B0.out).hb hi.num hi.hc.lg hi.live hi.hc.has)
 have C2 := Lib.hid (fun w' (hb : Below W0.heap.size W0 w') => hcnt_is ((hp.below B0.out).below hb) (by have := hi.cn; have := hi.num.N; omega))
 have C3 := Lib.hid (fun w' (hb : Below W0.heap.size W0 w') => hworn_is ((hp.below B0.out).below hb) hi.live hi.hc.lg.r1)
 have C4 := Lib.hid (fun w' (hb : Below W0.heap.size W0 w') => hdo_is x ((hp.below B0.out).below hb) hi hK ((hx.below B0.out).below hb))
 have LX : Hid (∀ w', Pxv w' w.heap.size x -> (pxLoad (.pointer (some ⟨w.heap.size, 0, none⟩))).run Tryz.prog w' = .ok (.agg (pxc x)) w') := Lib.hid fun w' h => run_pxLoad fun j u hj => by rw [Whole.at_ h, Nat.zero_add, <- hj]; simp [pxc]
 have HXv := Lib.hid hxv
 obtain ⟨bw, hbw⟩ : ∃ b, S.worn = b := ⟨_, rfl⟩
 rw [hbw] at C3
 have HBW := Lib.hid hbw
 clear hp hi hK hco hm hD hg hx hxf hbw hxv
 obtain ⟨z, hz⟩ : ∃ z, a.z = z := ⟨_, rfl⟩
 have HZ := Lib.hid hz
 rw [hz] at C1 C2 C3 C4 ⊢
 clear hz
 obtain ⟨xc, hxc⟩ : ∃ xc, pxc x = xc := ⟨_, rfl⟩
 have HXC := Lib.hid hxc
 rw [hxc] at C4 LX hW0 ⊢
 clear hxc
 have HK0 := Lib.hid hk
 clear hk
 go_enter Tryz.func17, Tryz.ntmps17
 go_wp2_with fail
 refine (C1.out).mono ?_; rintro e w1 ⟨⟨v1, rfl, o1⟩, b1⟩
 have D1 := Lib.hid b1
 have O1 := Lib.hid o1
 obtain ⟨q1, c1, rfl⟩ := o1.shape
 clear o1 b1
 go_wp2_with fail
 refine (C2.out _ D1.out).mono ?_; rintro e w2 ⟨⟨v2, rfl, o2⟩, b2⟩
 have D2 := Lib.hid (below_more D1.out b2)
 have O1b := Lib.hid (O1.out.below b2)
 have O2 := Lib.hid o2
 obtain ⟨q2, c2, rfl, _⟩ := o2.ri
 clear o2 b2
 go_wp2_with fail
 refine (C3.out _ D2.out).mono ?_; rintro e w3 ⟨rfl, rfl⟩
 have lx2 := LX.out _ (PX.out.below D2.out)
 go_wp2_with fail
 refine (C4.out _ D2.out).mono ?_; rintro e w3 ho
 obtain ⟨S', hp3, hc3, la3, co3, n3, hcalm⟩ := do_calm HI0.out HKK.out HCO.out ho
 have H3 := Lib.hid (And.intro hp3 (And.intro la3 (And.intro co3 n3)))
 have CH3 := Lib.hid hc3
 have HN0 : Hid (w.heap.size < W0.heap.size /\ (∀ k ∈ a.D, k < w.heap.size) /\ g < w.heap.size) := Lib.hid ⟨PX.out.lt, fun k hk => HM0.out.dlt k (HDD.out.1 k hk), HM0.out.dlt g HM0.out.gD⟩
 have PX3 := Lib.hid ((PX.out.below D2.out).chg hc3 (fun q => by have := HN0.out.2.1 _ q; omega))
 have OW3 := Lib.hid (own_chg_u O1b.out hc3 (fun k hk => by have := HN0.out.2.1 _ hk; have := HN0.out.1; omega))
 have OI3 := Lib.hid (own_chg_h O2.out hc3 (fun k hk => by have := HN0.out.2.1 _ hk; have := HN0.out.1; have := D1.out.size; omega))
 have XV3 : Hid (RA byE w3 (.slice qx x.bl.length cx) x.bl) := Lib.hid (by rw [<- HXv.out]; exact ra_chg_or (ra_below (ra_below HX.out.v B0.out) D2.out) hc3 HXF.out)
 have RM3 := Lib.hid (((HM0.out.below B0.out).below D2.out).chg hc3 HDD.out.1 HDD.out.2)
 clear hp3 hc3 la3 co3 n3 ho C1 C2 C3 C4 lx2
 cases hcalm
 case goes pl v h1 h2 h3 h4 h5 h6 h7 h8 h9 =>
  have hd : x.d = 3 := HK0.out
  have hi0 := HI0.out
  rw [hd] at h1
  have hpl : pl = plD X r x.o x.nn := h1
  subst hpl
  have hSS : S' = S := h9 (.inl rfl)
  have HIX := Lib.hid (show HI a S' (K + 1) X r from h5)
  have HFR : Hid ((Free S.s -> S.worn = false -> Free S'.s /\ S'.worn = false) /\ (S'.wf = S.wf \/ ¬ Free S.s)) := Lib.hid (by rw [hSS]; exact ⟨fun F q => ⟨F, q⟩, .inl rfl⟩)
  have HSS := Lib.hid hSS
  have h2' : e = .returned (.agg (anc (refF X x.o x.nn) 0 v)) := h2
  clear h2
  subst h2'
  have h3' : OwnA byE w2.heap.size w3 v (rdR X x.o x.nn) := h3
  obtain ⟨E, hE⟩ : ∃ E, refF X x.o x.nn = E := ⟨_, rfl⟩
  obtain ⟨dt, hdt⟩ : ∃ dt, rdR X x.o x.nn = dt := ⟨_, rfl⟩
  rw [hdt] at h3'
  rw [hE]
  clear h1 h4 h5 h6 h7 h8 h9 hSS h3
  have hv1 := ra_one h3'.ra
  obtain ⟨W4, hW4, hst4, HA4⟩ := an_boxed w3 E 0 hv1
  have OV4 := Lib.hid (h3'.below HA4.out.2)
  have A4 := Lib.hid HA4.out.1
  have B4 := Lib.hid HA4.out.2
  obtain ⟨qv, cv, hvv, _⟩ := ra_shape h3'.ra
  obtain ⟨nv, hnv⟩ : ∃ n, List.length dt = n := ⟨_, rfl⟩
  rw [hnv] at hvv
  subst hvv
  have la4 := A4.out.load
  have ce4 := A4.out.c0
  obtain ⟨bo, hbo⟩ : ∃ b, Calls Tryz.prog 41 #[.agg (anc E 0 (.slice qv nv cv)), .agg (anc E 0 (.slice none 0 0))] W4 fun f w' => f = .returned (.bool b) /\ Below W4.heap.size W4 w' := ⟨_, rsame_is (w := W4) (e := E) (o := 0) (e' := E) (o' := 0) (v' := .slice none 0 0) (l' := []) OV4.out.ra (own_nil_by 0 W4).ra⟩
  have SA := Lib.hid hbo
  clear hbo
  have RM4 := Lib.hid (RM3.out.below B4.out)
  have HS4 : Hid (w3.heap.size < W4.heap.size /\ w.heap.size < w3.heap.size) := Lib.hid ⟨A4.out.lt, by have := HN0.out.1; have := D2.out.size; have := CH3.out.size; omega⟩
  go_wp2_with fail
  refine (SA.out).mono ?_; rintro e w5 ⟨rfl, b5⟩
  have B5 := Lib.hid b5
  have RM5 := Lib.hid (RM4.out.below b5)
  have CL := Lib.hid (rclone_is _ RM5.out)
  clear b5 la4 ce4 SA hv1
  go_wp2_with fail
  refine (CL.out).mono ?_; rintro e w6 ⟨⟨xw, rfl, hxw, hxw2, hRx⟩, b6⟩
  have RX := Lib.hid hRx
  have RG := Lib.hid (RM5.out.more b6 hxw hxw2)
  have BB := Lib.hid (below_more B5.out b6)
  have A6 := Lib.hid ((A4.out.below BB.out))
  have PX6 := Lib.hid (((PX3.out.below B4.out).below BB.out))
  have HXW : Hid (w3.heap.size < xw /\ xw ≠ g) := Lib.hid (by have := B5.out.size; have := HS4.out; have := HN0.out; omega)
  have B36 := Lib.hid (below_more B4.out BB.out)
  clear hRx hxw hxw2 b6 CL
  have e6 := A6.out.c0
  have o6 := A6.out.c1
  have d6 := A6.out.c2
  have k6 := PX6.out.c0
  have k6o := PX6.out.c1
  have k6n := PX6.out.c2
  have k6v := PX6.out.c4
  rw [HXv.out] at k6v
  have CHW := Lib.hid ((Chg.of_below (below_more B0.out D2.out) (g :: a.D)).trans (CH3.out.mono fun k hk => List.mem_cons_of_mem _ hk))
  have CA := Lib.hid (rmread_is x.o x.nn w6 RX.out HX.out.o HX.out.n)
  rw [hE, hdt] at CA
  rw [HK0.out] at k6
  go_wp2_with fail
  refine (CA.out).mono ?_; rintro e w7 ⟨⟨vr, rfl, ov⟩, b7⟩
  have OV7 := Lib.hid ov
  have A7 := Lib.hid (A6.out.below b7)
  have B37 := Lib.hid (below_more B36.out b7)
  have OA7 := Lib.hid (((OV4.out.below BB.out).below b7))
  clear b7 e6 o6 d6 k6 k6o k6n k6v CA
  have la7 := A7.out.load
  obtain ⟨qr, cr, hvr, _⟩ := ra_shape ov.ra
  rw [hnv] at hvr
  subst hvr
  clear ov
  have SB := Lib.hid (rsame_is (w := w7) (e := E) (o := 0) (e' := E) (o' := 0) OA7.out.ra OV7.out.ra)
  rw [show decide ((E : Int) = E /\ (0 : Int) = 0 /\ dt = dt) = true by simp] at SB
  go_wp2_with fail
  refine (SB.out).mono ?_; rintro e w8 ⟨rfl, b8⟩
  have F := Lib.hid (And.intro (sout_fin H3.out.1 RM3.out HDD.out.2 H3.out.2 CHW.out HIX.out HFR.out (Chg.of_below (below_more B37.out b8) [g]) (RM3.out.below (below_more B37.out b8))) (show SOutR w _ a S D g X l r from ⟨by rw [<- HSS.out]; exact H3.out.1.below (below_more B37.out b8), RM3.out.below (below_more B37.out b8), CHW.out.trans (Chg.of_below (below_more B37.out b8) _)⟩))
  go_wp2_with fail
  go_ret
  exact F.out
 case worn pl v h1 h2 h3 h4 h5 h6 =>
  have hd : x.d = 3 := HK0.out
  rw [hd] at h1
  have hpl : pl = plD X r x.o x.nn := h1
  rw [hpl] at h4
  cases h4
 case wears pl v h1 h2 h3 h4 h5 h6 h7 h8 h9 =>
  have hd : x.d = 3 := HK0.out
  rw [hd] at h1
  have hpl : pl = plD X r x.o x.nn := h1
  rw [hpl] at h4
  cases h4.1
theorem step_get {w : World} {a : Ha} {S : Hs} {K : Nat} {X : List Int} {r : Nat} {D : List Nat} {g : Nat} {l : List Bk} (x : Px) (hp : Hp w a S) (hi : HI a S K X r) (hK : K < 1000) (hco : S.s.comes = false) (hm : Rm w D g X l (r : Int)) (hD : ∀ k ∈ a.D, k ∈ D) (hg : g ∉ a.D) (hx : PxOk w x) (hxf : x.bl = [] \/ ∀ k, x.v.ownBlock = some k -> k ∉ a.D) (hk : x.d = 6) :
 Calls Tryz.prog 17 #[.pointer (some ⟨a.z, 0, none⟩), .pointer (some ⟨g, 0, none⟩), .agg (pxc x)] w fun e w' => SOutH w w' a S K D g e /\ SOutR w w' a S D g X l r := by
 obtain ⟨W0, hW0⟩ : ∃ W0, w.alloc (.cells (pxc x) 37) = W0 := ⟨_, rfl⟩
 have B0 := Lib.hid (show Below w.heap.size w W0 from by rw [<- hW0]; exact bal (Below.refl _ _))
 have PX := Lib.hid (show Pxv W0 w.heap.size x from by rw [<- hW0]; exact Pxv.new w x)
 obtain ⟨qx, cx, hxv, _⟩ := ra_shape hx.v
 have HX := Lib.hid hx
 have HXF := Lib.hid hxf
 have HI0 := Lib.hid hi
 have HP0 := Lib.hid hp
 have HM0 := Lib.hid hm
 have HKK := Lib.hid hK
 have HCO := Lib.hid hco
 have HDD := Lib.hid (And.intro hD hg)
 have HB := Lib.hid (show blkF X = some l from hm.hB)
 have C1 := Lib.hid (hWords_is (hp.below B0.out).hb hi.num hi.hc.lg hi.live hi.hc.has)
 have C2 := Lib.hid (fun w' (hb : Below W0.heap.size W0 w') => hcnt_is ((hp.below B0.out).below hb) (by have := hi.cn; have := hi.num.N; omega))
 have C3 := Lib.hid (fun w' (hb : Below W0.heap.size W0 w') => hworn_is ((hp.below B0.out).below hb) hi.live hi.hc.lg.r1)
 have C4 := Lib.hid (fun w' (hb : Below W0.heap.size W0 w') => hdo_is x ((hp.below B0.out).below hb) hi hK ((hx.below B0.out).below hb))
 have LX : Hid (∀ w', Pxv w' w.heap.size x -> (pxLoad (.pointer (some ⟨w.heap.size, 0, none⟩))).run Tryz.prog w' = .ok (.agg (pxc x)) w') := Lib.hid fun w' h => run_pxLoad fun j u hj => by rw [Whole.at_ h, Nat.zero_add, <- hj]; simp [pxc]
 have HXv := Lib.hid hxv
 obtain ⟨bw, hbw⟩ : ∃ b, S.worn = b := ⟨_, rfl⟩
 rw [hbw] at C3
 have HBW := Lib.hid hbw
 clear hp hi hK hco hm hD hg hx hxf hbw hxv
 obtain ⟨z, hz⟩ : ∃ z, a.z = z := ⟨_, rfl⟩
 have HZ := Lib.hid hz
 rw [hz] at C1 C2 C3 C4 ⊢
 clear hz
 obtain ⟨xc, hxc⟩ : ∃ xc, pxc x = xc := ⟨_, rfl⟩
 have HXC := Lib.hid hxc
 rw [hxc] at C4 LX hW0 ⊢
 clear hxc
 have HK0 := Lib.hid hk
 clear hk
 go_enter Tryz.func17, Tryz.ntmps17
 go_wp2_with fail
 refine (C1.out).mono ?_; rintro e w1 ⟨⟨v1, rfl, o1⟩, b1⟩
 have D1 := Lib.hid b1
 have O1 := Lib.hid o1
 obtain ⟨q1, c1, rfl⟩ := o1.shape
 clear o1 b1
 go_wp2_with fail
 refine (C2.out _ D1.out).mono ?_; rintro e w2 ⟨⟨v2, rfl, o2⟩, b2⟩
 have D2 := Lib.hid (below_more D1.out b2)
 have O1b := Lib.hid (O1.out.below b2)
 have O2 := Lib.hid o2
 obtain ⟨q2, c2, rfl, _⟩ := o2.ri
 clear o2 b2
 go_wp2_with fail
 refine (C3.out _ D2.out).mono ?_; rintro e w3 ⟨rfl, rfl⟩
 have lx2 := LX.out _ (PX.out.below D2.out)
 go_wp2_with fail
 refine (C4.out _ D2.out).mono ?_; rintro e w3 ho
 obtain ⟨S', hp3, hc3, la3, co3, n3, hcalm⟩ := do_calm HI0.out HKK.out HCO.out ho
 have H3 := Lib.hid (And.intro hp3 (And.intro la3 (And.intro co3 n3)))
 have CH3 := Lib.hid hc3
 have HN0 : Hid (w.heap.size < W0.heap.size /\ (∀ k ∈ a.D, k < w.heap.size) /\ g < w.heap.size) := Lib.hid ⟨PX.out.lt, fun k hk => HM0.out.dlt k (HDD.out.1 k hk), HM0.out.dlt g HM0.out.gD⟩
 have PX3 := Lib.hid ((PX.out.below D2.out).chg hc3 (fun q => by have := HN0.out.2.1 _ q; omega))
 have OW3 := Lib.hid (own_chg_u O1b.out hc3 (fun k hk => by have := HN0.out.2.1 _ hk; have := HN0.out.1; omega))
 have OI3 := Lib.hid (own_chg_h O2.out hc3 (fun k hk => by have := HN0.out.2.1 _ hk; have := HN0.out.1; have := D1.out.size; omega))
 have XV3 : Hid (RA byE w3 (.slice qx x.bl.length cx) x.bl) := Lib.hid (by rw [<- HXv.out]; exact ra_chg_or (ra_below (ra_below HX.out.v B0.out) D2.out) hc3 HXF.out)
 have RM3 := Lib.hid (((HM0.out.below B0.out).below D2.out).chg hc3 HDD.out.1 HDD.out.2)
 clear hp3 hc3 la3 co3 n3 ho C1 C2 C3 C4 lx2
 cases hcalm
 case goes pl v h1 h2 h3 h4 h5 h6 h7 h8 h9 =>
  have hd : x.d = 6 := HK0.out
  have hi0 := HI0.out
  rw [hd] at h1
  have hpl : pl = plG X r := h1
  subst hpl
  have hSS : S' = S := h9 (.inl rfl)
  have HIX := Lib.hid (show HI a S' (K + 1) X r from h5)
  have HFR : Hid ((Free S.s -> S.worn = false -> Free S'.s /\ S'.worn = false) /\ (S'.wf = S.wf \/ ¬ Free S.s)) := Lib.hid (by rw [hSS]; exact ⟨fun F q => ⟨F, q⟩, .inl rfl⟩)
  have HSS := Lib.hid hSS
  have h2' : e = .returned (.agg (anc 0 (r : Int) v)) := h2
  clear h2
  subst h2'
  have h3' : OwnA byE w2.heap.size w3 v [] := h3
  clear h1 h4 h5 h6 h7 h8 h9 hSS h3
  have hv1 := ra_one h3'.ra
  obtain ⟨W4, hW4, hst4, HA4⟩ := an_boxed w3 0 (r : Int) hv1
  have OV4 := Lib.hid (h3'.below HA4.out.2)
  have A4 := Lib.hid HA4.out.1
  have B4 := Lib.hid HA4.out.2
  obtain ⟨qv, cv, hvv, _⟩ := ra_shape h3'.ra
  obtain ⟨nv, hnv⟩ : ∃ n, List.length ([] : List Int) = n := ⟨_, rfl⟩
  rw [hnv] at hvv
  subst hvv
  have la4 := A4.out.load
  have ce4 := A4.out.c0
  obtain ⟨bo, hbo⟩ : ∃ b, Calls Tryz.prog 41 #[.agg (anc 0 (r : Int) (.slice qv nv cv)), .agg (anc 0 0 (.slice none 0 0))] W4 fun f w' => f = .returned (.bool b) /\ Below W4.heap.size W4 w' := ⟨_, rsame_is (w := W4) (e := 0) (o := (r : Int)) (e' := 0) (o' := 0) (v' := .slice none 0 0) (l' := []) OV4.out.ra (own_nil_by 0 W4).ra⟩
  have SA := Lib.hid hbo
  clear hbo
  have RM4 := Lib.hid (RM3.out.below B4.out)
  have HS4 : Hid (w3.heap.size < W4.heap.size /\ w.heap.size < w3.heap.size) := Lib.hid ⟨A4.out.lt, by have := HN0.out.1; have := D2.out.size; have := CH3.out.size; omega⟩
  go_wp2_with fail
  refine (SA.out).mono ?_; rintro e w5 ⟨rfl, b5⟩
  have B5 := Lib.hid b5
  have RM5 := Lib.hid (RM4.out.below b5)
  have CL := Lib.hid (rclone_is _ RM5.out)
  clear b5 la4 ce4 SA hv1
  go_wp2_with fail
  refine (CL.out).mono ?_; rintro e w6 ⟨⟨xw, rfl, hxw, hxw2, hRx⟩, b6⟩
  have RX := Lib.hid hRx
  have RG := Lib.hid (RM5.out.more b6 hxw hxw2)
  have BB := Lib.hid (below_more B5.out b6)
  have A6 := Lib.hid ((A4.out.below BB.out))
  have PX6 := Lib.hid (((PX3.out.below B4.out).below BB.out))
  have HXW : Hid (w3.heap.size < xw /\ xw ≠ g) := Lib.hid (by have := B5.out.size; have := HS4.out; have := HN0.out; omega)
  have B36 := Lib.hid (below_more B4.out BB.out)
  clear hRx hxw hxw2 b6 CL
  have e6 := A6.out.c0
  have o6 := A6.out.c1
  have d6 := A6.out.c2
  have k6 := PX6.out.c0
  have k6o := PX6.out.c1
  have k6n := PX6.out.c2
  have k6v := PX6.out.c4
  rw [HXv.out] at k6v
  have CHW := Lib.hid ((Chg.of_below (below_more B0.out D2.out) (g :: a.D)).trans (CH3.out.mono fun k hk => List.mem_cons_of_mem _ hk))
  rw [HK0.out] at k6
  have SB := Lib.hid (fun w' (hb : Below w6.heap.size w6 w') => rsame_is (w := w') (e := 0) (o := (r : Int)) (e' := 0) (o' := (r : Int)) (v' := .slice none 0 0) (l' := []) ((OV4.out.below BB.out).below hb).ra (own_nil_by 0 w').ra)
  rw [show decide ((0 : Int) = 0 /\ ((r : Nat) : Int) = r /\ ([] : List Int) = []) = true by simp] at SB
  have la7 : ∀ w', Below w6.heap.size w6 w' -> (anLoad (.pointer (some ⟨w3.heap.size, 0, none⟩))).run Tryz.prog w' = .ok (.agg (anc 0 (r : Int) (.slice qv nv cv))) w' := fun w' hb => (A6.out.below hb).load
  have cr7 : ∀ w', Below w6.heap.size w6 w' -> w'.cell? ⟨g, 1, none⟩ = some (.int .i64 (r : Int)) := fun w' hb => by
   obtain ⟨mv, mW, _⟩ := (RG.out.below hb).rows
   rw [Whole.at_ mW]; rfl
  go_wp2
  go_region_held3 (fun w' => Below w6.heap.size w6 w')
   (first | assumption | exact (Below.refl _ _).drew)
   (first
     | (go_at_call 41; refine (SB.out _ (by first | assumption | exact (Below.refl _ _).drew)).mono ?_; rintro e w8 ⟨rfl, b8⟩
        have B8 := Lib.hid ((Below.refl w6.heap.size w6).drew.trans b8)
        clear b8))
  have F := Lib.hid (And.intro (sout_fin H3.out.1 RM3.out HDD.out.2 H3.out.2 CHW.out HIX.out HFR.out (Chg.of_below (below_more B36.out B8.out) [g]) (RM3.out.below (below_more B36.out B8.out))) (show SOutR w _ a S D g X l r from ⟨by rw [<- HSS.out]; exact H3.out.1.below (below_more B36.out B8.out), RM3.out.below (below_more B36.out B8.out), CHW.out.trans (Chg.of_below (below_more B36.out B8.out) _)⟩))
  go_wp2_with fail
  go_ret
  exact F.out
 case worn pl v h1 h2 h3 h4 h5 h6 =>
  have hd : x.d = 6 := HK0.out
  rw [hd] at h1
  have hpl : pl = plG X r := h1
  rw [hpl] at h4
  cases h4
 case wears pl v h1 h2 h3 h4 h5 h6 h7 h8 h9 =>
  have hd : x.d = 6 := HK0.out
  rw [hd] at h1
  have hpl : pl = plG X r := h1
  rw [hpl] at h4
  cases h4.1
theorem step_alloc {w : World} {a : Ha} {S : Hs} {K : Nat} {X : List Int} {r : Nat} {D : List Nat} {g : Nat} {l : List Bk} (x : Px) (hp : Hp w a S) (hi : HI a S K X r) (hK : K < 1000) (hco : S.s.comes = false) (hm : Rm w D g X l (r : Int)) (hD : ∀ k ∈ a.D, k ∈ D) (hg : g ∉ a.D) (hx : PxOk w x) (hxf : x.bl = [] \/ ∀ k, x.v.ownBlock = some k -> k ∉ a.D) (hk : x.d = 1) :
 Calls Tryz.prog 17 #[.pointer (some ⟨a.z, 0, none⟩), .pointer (some ⟨g, 0, none⟩), .agg (pxc x)] w fun e w' => SOutH w w' a S K D g e := by
 obtain ⟨W0, hW0⟩ : ∃ W0, w.alloc (.cells (pxc x) 37) = W0 := ⟨_, rfl⟩
 have B0 := Lib.hid (show Below w.heap.size w W0 from by rw [<- hW0]; exact bal (Below.refl _ _))
 have PX := Lib.hid (show Pxv W0 w.heap.size x from by rw [<- hW0]; exact Pxv.new w x)
 obtain ⟨qx, cx, hxv, _⟩ := ra_shape hx.v
 have HX := Lib.hid hx
 have HXF := Lib.hid hxf
 have HI0 := Lib.hid hi
 have HP0 := Lib.hid hp
 have HM0 := Lib.hid hm
 have HKK := Lib.hid hK
 have HCO := Lib.hid hco
 have HDD := Lib.hid (And.intro hD hg)
 have HB := Lib.hid (show blkF X = some l from hm.hB)
 have C1 := Lib.hid (hWords_is (hp.below B0.out).hb hi.num hi.hc.lg hi.live hi.hc.has)
 have C2 := Lib.hid (fun w' (hb : Below W0.heap.size W0 w') => hcnt_is ((hp.below B0.out).below hb) (by have := hi.cn; have := hi.num.N; omega))
 have C3 := Lib.hid (fun w' (hb : Below W0.heap.size W0 w') => hworn_is ((hp.below B0.out).below hb) hi.live hi.hc.lg.r1)
 have C4 := Lib.hid (fun w' (hb : Below W0.heap.size W0 w') => hdo_is x ((hp.below B0.out).below hb) hi hK ((hx.below B0.out).below hb))
 have LX : Hid (∀ w', Pxv w' w.heap.size x -> (pxLoad (.pointer (some ⟨w.heap.size, 0, none⟩))).run Tryz.prog w' = .ok (.agg (pxc x)) w') := Lib.hid fun w' h => run_pxLoad fun j u hj => by rw [Whole.at_ h, Nat.zero_add, <- hj]; simp [pxc]
 have HXv := Lib.hid hxv
 obtain ⟨bw, hbw⟩ : ∃ b, S.worn = b := ⟨_, rfl⟩
 rw [hbw] at C3
 have HBW := Lib.hid hbw
 clear hp hi hK hco hm hD hg hx hxf hbw hxv
 obtain ⟨z, hz⟩ : ∃ z, a.z = z := ⟨_, rfl⟩
 have HZ := Lib.hid hz
 rw [hz] at C1 C2 C3 C4 ⊢
 clear hz
 obtain ⟨xc, hxc⟩ : ∃ xc, pxc x = xc := ⟨_, rfl⟩
 have HXC := Lib.hid hxc
 rw [hxc] at C4 LX hW0 ⊢
 clear hxc
 have HK0 := Lib.hid hk
 clear hk
 go_enter Tryz.func17, Tryz.ntmps17
 go_wp2_with fail
 refine (C1.out).mono ?_; rintro e w1 ⟨⟨v1, rfl, o1⟩, b1⟩
 have D1 := Lib.hid b1
 have O1 := Lib.hid o1
 obtain ⟨q1, c1, rfl⟩ := o1.shape
 clear o1 b1
 go_wp2_with fail
 refine (C2.out _ D1.out).mono ?_; rintro e w2 ⟨⟨v2, rfl, o2⟩, b2⟩
 have D2 := Lib.hid (below_more D1.out b2)
 have O1b := Lib.hid (O1.out.below b2)
 have O2 := Lib.hid o2
 obtain ⟨q2, c2, rfl, _⟩ := o2.ri
 clear o2 b2
 go_wp2_with fail
 refine (C3.out _ D2.out).mono ?_; rintro e w3 ⟨rfl, rfl⟩
 have lx2 := LX.out _ (PX.out.below D2.out)
 go_wp2_with fail
 refine (C4.out _ D2.out).mono ?_; rintro e w3 ho
 obtain ⟨S', hp3, hc3, la3, co3, n3, hcalm⟩ := do_calm HI0.out HKK.out HCO.out ho
 have H3 := Lib.hid (And.intro hp3 (And.intro la3 (And.intro co3 n3)))
 have CH3 := Lib.hid hc3
 have HN0 : Hid (w.heap.size < W0.heap.size /\ (∀ k ∈ a.D, k < w.heap.size) /\ g < w.heap.size) := Lib.hid ⟨PX.out.lt, fun k hk => HM0.out.dlt k (HDD.out.1 k hk), HM0.out.dlt g HM0.out.gD⟩
 have PX3 := Lib.hid ((PX.out.below D2.out).chg hc3 (fun q => by have := HN0.out.2.1 _ q; omega))
 have OW3 := Lib.hid (own_chg_u O1b.out hc3 (fun k hk => by have := HN0.out.2.1 _ hk; have := HN0.out.1; omega))
 have OI3 := Lib.hid (own_chg_h O2.out hc3 (fun k hk => by have := HN0.out.2.1 _ hk; have := HN0.out.1; have := D1.out.size; omega))
 have XV3 : Hid (RA byE w3 (.slice qx x.bl.length cx) x.bl) := Lib.hid (by rw [<- HXv.out]; exact ra_chg_or (ra_below (ra_below HX.out.v B0.out) D2.out) hc3 HXF.out)
 have RM3 := Lib.hid (((HM0.out.below B0.out).below D2.out).chg hc3 HDD.out.1 HDD.out.2)
 clear hp3 hc3 la3 co3 n3 ho C1 C2 C3 C4 lx2
 cases hcalm
 case goes pl v h1 h2 h3 h4 h5 h6 h7 h8 h9 =>
  have hd : x.d = 1 := HK0.out
  have hi0 := HI0.out
  rw [hd] at h1
  have hpl : pl = plA X r S.ct.ints x.nn := h1
  have N3 : Hid (pl.e ≠ 3) := Lib.hid (plan_three h1)
  have AN := Lib.hid (aim_alloc_no (X := X) (r := r) (n := x.nn) (cs := S.ct.ints))
  have A0 := Lib.hid (fun q => aim_alloc (X := X) (l := l) (r := r) (N := a.N) (n := x.nn) (cs := S.ct.ints) hi0.len.1 hi0.hc.snd hi0.hc.ok HB.out q)
  have OD : Hid (pl.data = [] /\ (pl.e ≠ 0 -> pl.off = 0)) := Lib.hid (by
   rw [hpl]
   unfold plA plNo
   split
   . exact ⟨rfl, fun _ => rfl⟩
   . split
     . exact ⟨rfl, fun q => absurd rfl q⟩
     . exact ⟨rfl, fun _ => rfl⟩)
  rw [<- hpl] at AN A0
  have hAE := AN.out.1
  have hdat := OD.out.1
  have hXl : X.length <= 1000 := by have := HM0.out.len.2.1; omega
  have RA := fun (w' : World) (hb : Below w3.heap.size w3 w') => ral_is X x.nn S.ct.ints (.slice q1 X.length c1) (.slice q2 S.ct.ints.length c2) w' (ru_below OW3.out.ru hb) hXl hi0.hc.ok (ri_below OI3.out.ri hb)
  obtain ⟨E, hE⟩ : ∃ E, (alR X x.nn S.ct.ints).2.2 = E := ⟨_, rfl⟩
  obtain ⟨O, hO⟩ : ∃ O, (alR X x.nn S.ct.ints).2.1 = O := ⟨_, rfl⟩
  rw [hE] at hAE AN
  rw [hO] at A0
  have RA' := Lib.hid RA
  rw [hE, hO] at RA'
  clear RA hXl
  have PR : Hid (E ≠ 0 -> pl.X = X /\ pl.r = r) := Lib.hid fun q => by
   have p := plan_rest h1 (fun _ => by rw [hAE]; exact q)
   exact ⟨p.1, p.2.1⟩
  have HIX : Hid (HI a S' (K + 1) pl.X pl.r) := Lib.hid h5
  have HFR : Hid ((Free S.s -> S.worn = false -> Free S'.s /\ S'.worn = false) /\ (S'.wf = S.wf \/ ¬ Free S.s)) := Lib.hid ⟨fun F q => by
   have hw2 := worn_no q
   obtain ⟨f1, f2⟩ := h7 F hw2.2
   exact ⟨f1, by unfold Hs.worn; rw [h8, hw2.1, f2]; rfl⟩, .inl h8⟩
  have HCH : Hid (pl.ch = true -> bw = false) := Lib.hid fun q => by rw [<- HBW.out]; exact h4 q
  rw [hAE] at h2
  rw [hdat] at h3
  by_cases h0 : E = 0
  . subst h0
    have q0 := A0.out hAE
    have ho := q0.2.1
    rw [ho] at h2
    have Q0 := Lib.hid (And.intro q0.2.2.1 (And.intro q0.2.2.2.1 (And.intro q0.2.2.2.2.1 q0.2.2.2.2.2.2.1)))
    rw [ho] at Q0
    have hch : pl.ch = true := by
     cases e : pl.ch with
     | true => rfl
     | false => exact absurd (AN.out.2.1 e) (by decide)
    obtain rfl : bw = false := HCH.out hch
    subst h2
    have h3' := h3
    clear h1 h3 h4 h5 h6 h7 h8 h9 hdat hi0 hd hpl q0 ho hch hAE hE hO A0 AN
    have hv1 := ra_one h3'.ra
    obtain ⟨W4, hW4, hst4, HA4⟩ := an_boxed w3 0 O hv1
    have OV4 := Lib.hid (h3'.below HA4.out.2)
    have A4 := Lib.hid HA4.out.1
    have B4 := Lib.hid HA4.out.2
    obtain ⟨qv, cv, hvv, _⟩ := ra_shape h3'.ra
    obtain ⟨nv, hnv⟩ : ∃ n, List.length ([] : List Int) = n := ⟨_, rfl⟩
    rw [hnv] at hvv
    subst hvv
    have la4 := A4.out.load
    have ce4 := A4.out.c0
    obtain ⟨bo, hbo⟩ : ∃ b, Calls Tryz.prog 41 #[.agg (anc 0 O (.slice qv nv cv)), .agg (anc 0 0 (.slice none 0 0))] W4 fun f w' => f = .returned (.bool b) /\ Below W4.heap.size W4 w' := ⟨_, rsame_is (w := W4) (e := 0) (o := O) (e' := 0) (o' := 0) (v' := .slice none 0 0) (l' := []) OV4.out.ra (own_nil_by 0 W4).ra⟩
    have SA := Lib.hid hbo
    clear hbo
    have RM4 := Lib.hid (RM3.out.below B4.out)
    have HS4 : Hid (w3.heap.size < W4.heap.size /\ w.heap.size < w3.heap.size) := Lib.hid ⟨A4.out.lt, by have := HN0.out.1; have := D2.out.size; have := CH3.out.size; omega⟩
    go_wp2_with fail
    refine (SA.out).mono ?_; rintro e w5 ⟨rfl, b5⟩
    have B5 := Lib.hid b5
    have RM5 := Lib.hid (RM4.out.below b5)
    have CL := Lib.hid (rclone_is _ RM5.out)
    clear b5 la4 ce4 SA hv1
    go_wp2_with fail
    refine (CL.out).mono ?_; rintro e w6 ⟨⟨xw, rfl, hxw, hxw2, hRx⟩, b6⟩
    have RX := Lib.hid hRx
    have RG := Lib.hid (RM5.out.more b6 hxw hxw2)
    have BB := Lib.hid (below_more B5.out b6)
    have A6 := Lib.hid ((A4.out.below BB.out))
    have PX6 := Lib.hid (((PX3.out.below B4.out).below BB.out))
    have HXW : Hid (w3.heap.size < xw /\ xw ≠ g) := Lib.hid (by have := B5.out.size; have := HS4.out; have := HN0.out; omega)
    have B36 := Lib.hid (below_more B4.out BB.out)
    clear hRx hxw hxw2 b6 CL
    have e6 := A6.out.c0
    have o6 := A6.out.c1
    have d6 := A6.out.c2
    have k6 := PX6.out.c0
    have k6o := PX6.out.c1
    have k6n := PX6.out.c2
    have k6v := PX6.out.c4
    rw [HXv.out] at k6v
    have CHW := Lib.hid ((Chg.of_below (below_more B0.out D2.out) (g :: a.D)).trans (CH3.out.mono fun k hk => List.mem_cons_of_mem _ hk))
    have CA := RA'.out _ B36.out
    rw [HK0.out] at k6
    go_wp2_with fail
    refine CA.mono ?_; rintro e w7 ⟨⟨vx, rfl, _⟩, b7⟩
    have A7 := Lib.hid (A6.out.below b7)
    have PX7 := Lib.hid (PX6.out.below b7)
    have B37 := Lib.hid (below_more B36.out b7)
    have RG7 := Lib.hid (RG.out.below b7)
    have R7 := Lib.hid (RX.out.below b7)
    clear b7 e6 o6 d6 k6 k6o k6n k6v CA RA'
    have e7 := A7.out.c0
    have o7 := A7.out.c1
    have d7 := A7.out.c2
    have k7n := PX7.out.c2
    have CB := Lib.hid (rmalloc_is x.nn O w7 R7.out)
    rw [Q0.out.1] at CB
    have nv0 : nv = 0 := hnv.symm
    subst nv0
    go_wp2_with fail
    refine (CB.out).mono ?_; rintro e w8 ⟨rfl, hR8, c8⟩
    have B38 := Lib.hid (c8.below B37.out B37.out.size (fun k hk => by rw [List.mem_singleton.1 hk]; have := HXW.out; omega))
    have RG8 := Lib.hid (RG7.out.chg c8 (fun k hk => by rw [List.mem_singleton.1 hk]; exact List.mem_cons_self ..) (by have := HXW.out; simp; omega))
    obtain ⟨vt, t1, t2, t3, t4, t5, _⟩ := RG8.out.take hR8 (fun k hk => hk)
    obtain ⟨qt, nt, ct, rfl⟩ := t5
    obtain ⟨y0, t2'⟩ : ∃ y, w8.cell? ⟨g, 0, none⟩ = some y := by
     cases e : w8.cell? ⟨g, 0, none⟩ with
     | some y => exact ⟨y, rfl⟩
     | none => exact absurd e t2
    have F : Hid (SOutH w (w8.setCell ⟨g, 0, none⟩ (.slice qt nt ct)) a S K D g (.returned (.int .i64 0))) := Lib.hid (sout_fin H3.out.1 RM3.out HDD.out.2 H3.out.2 CHW.out HIX.out HFR.out ((Chg.of_below B38.out [g]).setCell (p := ⟨g, 0, none⟩) (.inl (by simp)) _) (by
     rw [Q0.out.2.1] at t4
     rw [Q0.out.2.2.2]
     exact t4.less_h (fun k hk => List.mem_cons_of_mem _ hk) HM0.out.gD))
    clear t2 t4 hR8 c8
    go_wp2_with fail
    go_ret
    exact F.out
  . have ho := OD.out.2 (by rw [hAE]; exact h0)
    rw [ho] at h2
    subst h2
    have h3' := h3
    have j3' : E ≠ 3 := by rw [<- hAE]; exact N3.out
    clear h1 h3 h4 h5 h6 h7 h8 h9 hdat hi0 hd hpl ho hAE hE hO A0
    have hv1 := ra_one h3'.ra
    obtain ⟨W4, hW4, hst4, HA4⟩ := an_boxed w3 E 0 hv1
    have OV4 := Lib.hid (h3'.below HA4.out.2)
    have A4 := Lib.hid HA4.out.1
    have B4 := Lib.hid HA4.out.2
    obtain ⟨qv, cv, hvv, _⟩ := ra_shape h3'.ra
    obtain ⟨nv, hnv⟩ : ∃ n, List.length ([] : List Int) = n := ⟨_, rfl⟩
    rw [hnv] at hvv
    subst hvv
    have la4 := A4.out.load
    have ce4 := A4.out.c0
    have SA := Lib.hid (rsame_is (w := W4) (e := E) (o := 0) (e' := E) (o' := 0) (v' := .slice none 0 0) (l' := []) OV4.out.ra (own_nil_by 0 W4).ra)
    rw [show decide ((E : Int) = E /\ (0 : Int) = 0 /\ ([] : List Int) = []) = true by simp] at SA
    have RM4 := Lib.hid (RM3.out.below B4.out)
    have HS4 : Hid (w3.heap.size < W4.heap.size /\ w.heap.size < w3.heap.size) := Lib.hid ⟨A4.out.lt, by have := HN0.out.1; have := D2.out.size; have := CH3.out.size; omega⟩
    go_wp2_with fail
    refine (SA.out).mono ?_; rintro e w5 ⟨rfl, b5⟩
    have B5 := Lib.hid b5
    have RM5 := Lib.hid (RM4.out.below b5)
    have CL := Lib.hid (rclone_is _ RM5.out)
    clear b5 la4 ce4 SA hv1
    go_wp2_with fail
    refine (CL.out).mono ?_; rintro e w6 ⟨⟨xw, rfl, hxw, hxw2, hRx⟩, b6⟩
    have RX := Lib.hid hRx
    have RG := Lib.hid (RM5.out.more b6 hxw hxw2)
    have BB := Lib.hid (below_more B5.out b6)
    have A6 := Lib.hid ((A4.out.below BB.out))
    have PX6 := Lib.hid (((PX3.out.below B4.out).below BB.out))
    have HXW : Hid (w3.heap.size < xw /\ xw ≠ g) := Lib.hid (by have := B5.out.size; have := HS4.out; have := HN0.out; omega)
    have B36 := Lib.hid (below_more B4.out BB.out)
    clear hRx hxw hxw2 b6 CL
    have e6 := A6.out.c0
    have o6 := A6.out.c1
    have d6 := A6.out.c2
    have k6 := PX6.out.c0
    have k6o := PX6.out.c1
    have k6n := PX6.out.c2
    have k6v := PX6.out.c4
    rw [HXv.out] at k6v
    have CHW := Lib.hid ((Chg.of_below (below_more B0.out D2.out) (g :: a.D)).trans (CH3.out.mono fun k hk => List.mem_cons_of_mem _ hk))
    have CA := RA'.out _ B36.out
    rw [HK0.out] at k6
    go_wp2_with fail
    refine CA.mono ?_; rintro e w7 ⟨⟨vx, rfl, _⟩, b7⟩
    have A7 := Lib.hid (A6.out.below b7)
    have PX7 := Lib.hid (PX6.out.below b7)
    have B37 := Lib.hid (below_more B36.out b7)
    have RG7 := Lib.hid (RG.out.below b7)
    have R7 := Lib.hid (RX.out.below b7)
    clear b7 e6 o6 d6 k6 k6o k6n k6v CA RA'
    have e7 := A7.out.c0
    have o7 := A7.out.c1
    have d7 := A7.out.c2
    have k7n := PX7.out.c2
    have F : Hid (SOutH w w7 a S K D g (.returned (.int .i64 0))) := Lib.hid (sout_fin H3.out.1 RM3.out HDD.out.2 H3.out.2 CHW.out HIX.out HFR.out (Chg.of_below B37.out [g]) (by rw [(PR.out h0).1, (PR.out h0).2]; exact RM3.out.below B37.out))
    cases bw
    . have j0 : (E == 0) = false := beq_eq_false_iff_ne.2 h0
      have j3 : (E == 3) = false := beq_eq_false_iff_ne.2 j3'
      clear h0 j3'
      go_wp2_with fail
      go_ret
      exact F.out
    . obtain rfl : E = 1 := AN.out.2.1 (by
       cases e : pl.ch with
       | false => rfl
       | true => exact absurd (HCH.out e) (by decide))
      clear h0 j3'
      go_wp2_with fail
      go_ret
      exact F.out
 case worn pl v h1 h2 h3 h4 h5 h6 =>
  have hd : x.d = 1 := HK0.out
  have hi0 := HI0.out
  rw [hd] at h1
  have hpl : pl = plA X r S.ct.ints x.nn := h1
  have N3 : Hid (pl.e ≠ 3) := Lib.hid (plan_three h1)
  have AN := Lib.hid (aim_alloc_no (X := X) (r := r) (n := x.nn) (cs := S.ct.ints))
  have A0 := Lib.hid (fun q => aim_alloc (X := X) (l := l) (r := r) (N := a.N) (n := x.nn) (cs := S.ct.ints) hi0.len.1 hi0.hc.snd hi0.hc.ok HB.out q)
  have OD : Hid (pl.data = [] /\ (pl.e ≠ 0 -> pl.off = 0)) := Lib.hid (by
   rw [hpl]
   unfold plA plNo
   split
   . exact ⟨rfl, fun _ => rfl⟩
   . split
     . exact ⟨rfl, fun q => absurd rfl q⟩
     . exact ⟨rfl, fun _ => rfl⟩)
  rw [<- hpl] at AN A0
  have hAE := AN.out.1
  have hdat := OD.out.1
  have hXl : X.length <= 1000 := by have := HM0.out.len.2.1; omega
  have RA := fun (w' : World) (hb : Below w3.heap.size w3 w') => ral_is X x.nn S.ct.ints (.slice q1 X.length c1) (.slice q2 S.ct.ints.length c2) w' (ru_below OW3.out.ru hb) hXl hi0.hc.ok (ri_below OI3.out.ri hb)
  obtain ⟨E, hE⟩ : ∃ E, (alR X x.nn S.ct.ints).2.2 = E := ⟨_, rfl⟩
  obtain ⟨O, hO⟩ : ∃ O, (alR X x.nn S.ct.ints).2.1 = O := ⟨_, rfl⟩
  rw [hE] at hAE AN
  rw [hO] at A0
  have RA' := Lib.hid RA
  rw [hE, hO] at RA'
  clear RA hXl
  have HIX : Hid (HI a S' (K + 1) X r) := Lib.hid (by have := HKK.out; rw [h6]; exact hi0.more (by omega) (by omega))
  have HFR : Hid ((Free S.s -> S.worn = false -> Free S'.s /\ S'.worn = false) /\ (S'.wf = S.wf \/ ¬ Free S.s)) := Lib.hid (by rw [h6]; exact ⟨fun F q => (by rw [h5] at q; cases q), .inl rfl⟩)
  obtain rfl : bw = true := by rw [<- HBW.out]; exact h5
  have E1 : E ≠ 1 := AN.out.2.2 h4
  have h3' := h3
  subst h2
  clear h1 h3 h4 h5 h6 hdat hi0 hd hpl hAE hE hO A0 AN
  have hv1 := ra_one h3'.ra
  obtain ⟨W4, hW4, hst4, HA4⟩ := an_boxed w3 3 0 hv1
  have OV4 := Lib.hid (h3'.below HA4.out.2)
  have A4 := Lib.hid HA4.out.1
  have B4 := Lib.hid HA4.out.2
  obtain ⟨qv, cv, hvv, _⟩ := ra_shape h3'.ra
  obtain ⟨nv, hnv⟩ : ∃ n, List.length ([] : List Int) = n := ⟨_, rfl⟩
  rw [hnv] at hvv
  subst hvv
  have la4 := A4.out.load
  have ce4 := A4.out.c0
  have SA := Lib.hid (rsame_is (w := W4) (e := 3) (o := 0) (e' := 3) (o' := 0) (v' := .slice none 0 0) (l' := []) OV4.out.ra (own_nil_by 0 W4).ra)
  rw [show decide ((3 : Int) = 3 /\ (0 : Int) = 0 /\ ([] : List Int) = []) = true by decide] at SA
  have RM4 := Lib.hid (RM3.out.below B4.out)
  have HS4 : Hid (w3.heap.size < W4.heap.size /\ w.heap.size < w3.heap.size) := Lib.hid ⟨A4.out.lt, by have := HN0.out.1; have := D2.out.size; have := CH3.out.size; omega⟩
  go_wp2_with fail
  refine (SA.out).mono ?_; rintro e w5 ⟨rfl, b5⟩
  have B5 := Lib.hid b5
  have RM5 := Lib.hid (RM4.out.below b5)
  have CL := Lib.hid (rclone_is _ RM5.out)
  clear b5 la4 ce4 SA hv1
  go_wp2_with fail
  refine (CL.out).mono ?_; rintro e w6 ⟨⟨xw, rfl, hxw, hxw2, hRx⟩, b6⟩
  have RX := Lib.hid hRx
  have RG := Lib.hid (RM5.out.more b6 hxw hxw2)
  have BB := Lib.hid (below_more B5.out b6)
  have A6 := Lib.hid ((A4.out.below BB.out))
  have PX6 := Lib.hid (((PX3.out.below B4.out).below BB.out))
  have HXW : Hid (w3.heap.size < xw /\ xw ≠ g) := Lib.hid (by have := B5.out.size; have := HS4.out; have := HN0.out; omega)
  have B36 := Lib.hid (below_more B4.out BB.out)
  clear hRx hxw hxw2 b6 CL
  have e6 := A6.out.c0
  have o6 := A6.out.c1
  have d6 := A6.out.c2
  have k6 := PX6.out.c0
  have k6o := PX6.out.c1
  have k6n := PX6.out.c2
  have k6v := PX6.out.c4
  rw [HXv.out] at k6v
  have CHW := Lib.hid ((Chg.of_below (below_more B0.out D2.out) (g :: a.D)).trans (CH3.out.mono fun k hk => List.mem_cons_of_mem _ hk))
  have CA := RA'.out _ B36.out
  rw [HK0.out] at k6
  go_wp2_with fail
  refine CA.mono ?_; rintro e w7 ⟨⟨vx, rfl, _⟩, b7⟩
  have A7 := Lib.hid (A6.out.below b7)
  have PX7 := Lib.hid (PX6.out.below b7)
  have B37 := Lib.hid (below_more B36.out b7)
  have RG7 := Lib.hid (RG.out.below b7)
  have R7 := Lib.hid (RX.out.below b7)
  clear b7 e6 o6 d6 k6 k6o k6n k6v CA RA'
  have e7 := A7.out.c0
  have o7 := A7.out.c1
  have d7 := A7.out.c2
  have k7n := PX7.out.c2
  have F : Hid (SOutH w w7 a S K D g (.returned (.int .i64 0))) := Lib.hid (sout_fin H3.out.1 RM3.out HDD.out.2 H3.out.2 CHW.out HIX.out HFR.out (Chg.of_below B37.out [g]) (RM3.out.below B37.out))
  have j1 : (E == 1) = false := beq_eq_false_iff_ne.2 E1
  go_wp2_with fail
  go_ret
  exact F.out
 case wears pl v h1 h2 h3 h4 h5 h6 h7 h8 h9 =>
  have hd : x.d = 1 := HK0.out
  have hi0 := HI0.out
  rw [hd] at h1
  have hpl : pl = plA X r S.ct.ints x.nn := h1
  have N3 : Hid (pl.e ≠ 3) := Lib.hid (plan_three h1)
  have AN := Lib.hid (aim_alloc_no (X := X) (r := r) (n := x.nn) (cs := S.ct.ints))
  have A0 := Lib.hid (fun q => aim_alloc (X := X) (l := l) (r := r) (N := a.N) (n := x.nn) (cs := S.ct.ints) hi0.len.1 hi0.hc.snd hi0.hc.ok HB.out q)
  have OD : Hid (pl.data = [] /\ (pl.e ≠ 0 -> pl.off = 0)) := Lib.hid (by
   rw [hpl]
   unfold plA plNo
   split
   . exact ⟨rfl, fun _ => rfl⟩
   . split
     . exact ⟨rfl, fun q => absurd rfl q⟩
     . exact ⟨rfl, fun _ => rfl⟩)
  rw [<- hpl] at AN A0
  have hAE := AN.out.1
  have hdat := OD.out.1
  have hXl : X.length <= 1000 := by have := HM0.out.len.2.1; omega
  have RA := fun (w' : World) (hb : Below w3.heap.size w3 w') => ral_is X x.nn S.ct.ints (.slice q1 X.length c1) (.slice q2 S.ct.ints.length c2) w' (ru_below OW3.out.ru hb) hXl hi0.hc.ok (ri_below OI3.out.ri hb)
  obtain ⟨E, hE⟩ : ∃ E, (alR X x.nn S.ct.ints).2.2 = E := ⟨_, rfl⟩
  obtain ⟨O, hO⟩ : ∃ O, (alR X x.nn S.ct.ints).2.1 = O := ⟨_, rfl⟩
  rw [hE] at hAE AN
  rw [hO] at A0
  have RA' := Lib.hid RA
  rw [hE, hO] at RA'
  clear RA hXl
  have HIX : Hid (HI a S' (K + 1) X r) := Lib.hid h6
  have HFR : Hid ((Free S.s -> S.worn = false -> Free S'.s /\ S'.worn = false) /\ (S'.wf = S.wf \/ ¬ Free S.s)) := Lib.hid ⟨fun F => absurd F h9, .inr h9⟩
  obtain rfl : bw = false := by rw [<- HBW.out]; exact h5
  obtain rfl : E = 0 := by rw [<- hAE]; exact h4.2.1
  have C5 := Lib.hid (fun w' (hb : Below w3.heap.size w3 w') => hworn_is (H3.out.1.below hb) HIX.out.live HIX.out.hc.lg.r1)
  rw [HZ.out, h8] at C5
  have h3' := h3
  subst h2
  clear h1 h3 h4 h5 h6 h7 h8 h9 hdat hi0 hd hpl hAE hE hO A0 AN
  have hv1 := ra_one h3'.ra
  obtain ⟨W4, hW4, hst4, HA4⟩ := an_boxed w3 3 0 hv1
  have OV4 := Lib.hid (h3'.below HA4.out.2)
  have A4 := Lib.hid HA4.out.1
  have B4 := Lib.hid HA4.out.2
  obtain ⟨qv, cv, hvv, _⟩ := ra_shape h3'.ra
  obtain ⟨nv, hnv⟩ : ∃ n, List.length ([] : List Int) = n := ⟨_, rfl⟩
  rw [hnv] at hvv
  subst hvv
  have la4 := A4.out.load
  have ce4 := A4.out.c0
  have SA := Lib.hid (rsame_is (w := W4) (e := 3) (o := 0) (e' := 3) (o' := 0) (v' := .slice none 0 0) (l' := []) OV4.out.ra (own_nil_by 0 W4).ra)
  rw [show decide ((3 : Int) = 3 /\ (0 : Int) = 0 /\ ([] : List Int) = []) = true by decide] at SA
  have RM4 := Lib.hid (RM3.out.below B4.out)
  have HS4 : Hid (w3.heap.size < W4.heap.size /\ w.heap.size < w3.heap.size) := Lib.hid ⟨A4.out.lt, by have := HN0.out.1; have := D2.out.size; have := CH3.out.size; omega⟩
  go_wp2_with fail
  refine (SA.out).mono ?_; rintro e w5 ⟨rfl, b5⟩
  have B5 := Lib.hid b5
  have RM5 := Lib.hid (RM4.out.below b5)
  have CL := Lib.hid (rclone_is _ RM5.out)
  clear b5 la4 ce4 SA hv1
  go_wp2_with fail
  refine (CL.out).mono ?_; rintro e w6 ⟨⟨xw, rfl, hxw, hxw2, hRx⟩, b6⟩
  have RX := Lib.hid hRx
  have RG := Lib.hid (RM5.out.more b6 hxw hxw2)
  have BB := Lib.hid (below_more B5.out b6)
  have A6 := Lib.hid ((A4.out.below BB.out))
  have PX6 := Lib.hid (((PX3.out.below B4.out).below BB.out))
  have HXW : Hid (w3.heap.size < xw /\ xw ≠ g) := Lib.hid (by have := B5.out.size; have := HS4.out; have := HN0.out; omega)
  have B36 := Lib.hid (below_more B4.out BB.out)
  clear hRx hxw hxw2 b6 CL
  have e6 := A6.out.c0
  have o6 := A6.out.c1
  have d6 := A6.out.c2
  have k6 := PX6.out.c0
  have k6o := PX6.out.c1
  have k6n := PX6.out.c2
  have k6v := PX6.out.c4
  rw [HXv.out] at k6v
  have CHW := Lib.hid ((Chg.of_below (below_more B0.out D2.out) (g :: a.D)).trans (CH3.out.mono fun k hk => List.mem_cons_of_mem _ hk))
  have CA := RA'.out _ B36.out
  rw [HK0.out] at k6
  go_wp2_with fail
  refine CA.mono ?_; rintro e w7 ⟨⟨vx, rfl, _⟩, b7⟩
  have A7 := Lib.hid (A6.out.below b7)
  have PX7 := Lib.hid (PX6.out.below b7)
  have B37 := Lib.hid (below_more B36.out b7)
  have RG7 := Lib.hid (RG.out.below b7)
  have R7 := Lib.hid (RX.out.below b7)
  clear b7 e6 o6 d6 k6 k6o k6n k6v CA RA'
  have e7 := A7.out.c0
  have o7 := A7.out.c1
  have d7 := A7.out.c2
  have k7n := PX7.out.c2
  have F : Hid (SOutH w w7 a S K D g (.returned (.int .i64 0))) := Lib.hid (sout_fin H3.out.1 RM3.out HDD.out.2 H3.out.2 CHW.out HIX.out HFR.out (Chg.of_below B37.out [g]) (RM3.out.below B37.out))
  go_wp2_with fail
  refine (C5.out _ B37.out).mono ?_; rintro e w8 ⟨rfl, rfl⟩
  go_wp2_with fail
  go_ret
  exact F.out
theorem step_is {w : World} {a : Ha} {S : Hs} {K : Nat} {X : List Int} {r : Nat} {D : List Nat} {g : Nat} {l : List Bk} (x : Px) (hp : Hp w a S) (hi : HI a S K X r) (hK : K < 1000) (hco : S.s.comes = false) (hm : Rm w D g X l (r : Int)) (hD : ∀ k ∈ a.D, k ∈ D) (hg : g ∉ a.D) (hx : PxOk w x) (hxf : x.bl = [] \/ ∀ k, x.v.ownBlock = some k -> k ∉ a.D) :
 Calls Tryz.prog 17 #[.pointer (some ⟨a.z, 0, none⟩), .pointer (some ⟨g, 0, none⟩), .agg (pxc x)] w fun e w' => SOutH w w' a S K D g e := by
 by_cases c1 : x.d = 1
 . exact step_alloc x hp hi hK hco hm hD hg hx hxf c1
 by_cases c2 : x.d = 2
 . exact step_free x hp hi hK hco hm hD hg hx hxf c2
 by_cases c3 : x.d = 3
 . exact (step_read x hp hi hK hco hm hD hg hx hxf c3).mono fun _ _ h => h.1
 by_cases c4 : x.d = 4
 . exact step_write x hp hi hK hco hm hD hg hx hxf c4
 by_cases c5 : x.d = 5
 . exact step_root x hp hi hK hco hm hD hg hx hxf c5
 by_cases c6 : x.d = 6
 . exact (step_get x hp hi hK hco hm hD hg hx hxf c6).mono fun _ _ h => h.1
 exact step_else x hp hi hK hco hm hD hg hx hxf (by omega)
structure HRun (w0 wi : World) (a : Ha) (g K : Nat) (fr : Bool) (S : Hs) (X : List Int) (r : Nat) (lb : List Bk) : Prop where
 hp : Hp wi a S
 hi : HI a S K X r
 co : S.s.comes = false
 fr : fr = true -> Free S.s /\ S.worn = false
 rm : Rm wi (g :: a.D) g X lb (r : Int)
 b : Below w0.heap.size w0 wi
 lo : ∀ k ∈ g :: a.D, w0.heap.size <= k
 hg : g ∉ a.D
theorem HRun.below {w0 wi w' : World} {a : Ha} {g K : Nat} {fr : Bool} {S : Hs} {X : List Int} {r : Nat} {lb : List Bk} (h : HRun w0 wi a g K fr S X r lb) (hb : Below wi.heap.size wi w') : HRun w0 w' a g K fr S X r lb :=
 ⟨h.hp.below hb, h.hi, h.co, h.fr, h.rm.below hb, below_more h.b hb, h.lo, h.hg⟩
theorem HRun.far {w0 wi : World} {a : Ha} {g K : Nat} {fr : Bool} {S : Hs} {X : List Int} {r : Nat} {lb : List Bk} {x : Px} (h : HRun w0 wi a g K fr S X r lb) (hx : x.Wf w0) : x.bl = [] \/ ∀ k, x.v.ownBlock = some k -> k ∉ a.D := by
 rcases ra_low hx.rv with q | q
 . exact .inl q
 . refine .inr fun k hk m => ?_
   have h1 := q k hk
   have h2 := h.lo k (List.mem_cons_of_mem _ m)
   omega
theorem px_ok {W w : World} {x : Px} (h : x.Wf W) (hb : Below W.heap.size W w) (hl : x.bl.length <= 100000) : PxOk w x := ⟨ra_below h.rv hb, hl, i64_wf h.wo, i64_wf h.wn⟩
theorem HRun.step {w0 wi : World} {a : Ha} {g K : Nat} {fr : Bool} {S : Hs} {X : List Int} {r : Nat} {lb : List Bk} (x : Px) (h : HRun w0 wi a g K fr S X r lb) (hK : K < 1000) (hx : x.Wf w0) (hl : x.bl.length <= 100000) :
 Calls Tryz.prog 17 #[.pointer (some ⟨a.z, 0, none⟩), .pointer (some ⟨g, 0, none⟩), .agg (pxc x)] wi fun e w' => e = .returned (.int .i64 0) /\ Chg (g :: a.D) wi w' /\ ∃ S' X' r' lb', HRun w0 w' a g (K + 1) fr S' X' r' lb' /\ S'.s.la = S.s.la /\ S'.s.n = S.s.n /\ (S'.wf = S.wf \/ ¬ Free S.s) := by
 refine (step_is x h.hp h.hi hK h.co h.rm (fun k hk => List.mem_cons_of_mem _ hk) h.hg (px_ok hx h.b hl) (h.far hx)).mono ?_
 . rintro e w' ⟨rfl, S', X', l', r', g1, g2, g3, g4, g5, g6, g7, g8, g9⟩
   refine ⟨rfl, g7, S', X', r', l', ⟨g1, g2, g4, fun q => ?_, g6, g7.below h.b h.b.size h.lo, h.lo, h.hg⟩, g3, g5, g9⟩
   obtain ⟨f1, f2⟩ := h.fr q
   exact g8 f1 f2
theorem HRun.reads {w0 wi : World} {a : Ha} {g K : Nat} {fr : Bool} {S : Hs} {X : List Int} {r : Nat} {lb : List Bk} (x : Px) (h : HRun w0 wi a g K fr S X r lb) (hK : K < 1000) (hx : x.Wf w0) (hl : x.bl.length <= 100000) (hd : x.d = 3 \/ x.d = 6) :
 Calls Tryz.prog 17 #[.pointer (some ⟨a.z, 0, none⟩), .pointer (some ⟨g, 0, none⟩), .agg (pxc x)] wi fun e w' => e = .returned (.int .i64 0) /\ Chg (g :: a.D) wi w' /\ HRun w0 w' a g K fr S X r lb := by
 have hf := h.far hx
 have hD : ∀ k ∈ a.D, k ∈ g :: a.D := fun k hk => List.mem_cons_of_mem _ hk
 have go : ∀ w', SOutR wi w' a S (g :: a.D) g X lb r -> Chg (g :: a.D) wi w' /\ HRun w0 w' a g K fr S X r lb := fun w' q => ⟨q.c, ⟨q.hp, h.hi, h.co, h.fr, q.rm, q.c.below h.b h.b.size h.lo, h.lo, h.hg⟩⟩
 rcases hd with hd | hd
 . exact (step_read x h.hp h.hi hK h.co h.rm hD h.hg (px_ok hx h.b hl) hf hd).mono fun e w' q => ⟨q.1.1, go w' q.2⟩
 . exact (step_get x h.hp h.hi hK h.co h.rm hD h.hg (px_ok hx h.b hl) hf hd).mono fun e w' q => ⟨q.1.1, go w' q.2⟩
theorem HRun.boxed {w0 wi : World} {a : Ha} {g K : Nat} {fr : Bool} {S : Hs} {X : List Int} {r : Nat} {lb : List Bk} (h : HRun w0 wi a g K fr S X r lb) : (∀ k ∈ g :: a.D, k < wi.heap.size) := fun k hk => h.rm.dlt k hk
theorem heavy21b {W0 w : World} (l : List Px) (lim : List Int) (v u : Value) (hv : RA (opE W0) w v l) (hu : RI w u lim) :
 Calls Tryz.prog 12 #[v, u] w fun e w' => (∃ r : Nat, e = .returned (.int .i64 (r : Int)) /\ r <= 81 /\ (r = 0 -> Light l lim)) /\ Below w.heap.size w w' := by
 have HV := Lib.hid hv
 obtain ⟨p, cap, rfl, h1, h2⟩ := ra_shape hv
 obtain ⟨p2, cap2, rfl, h3, h4, _⟩ := hu
 unfold maxLen at h2 h4
 by_cases c2 : 200 < lim.length
 . have i2 : (lim.length : Int) > 200 := by omega
   clear hv h1 h2 h3 h4 c2
   generalize lim.length = L2 at *
   generalize l.length = L at *
   go_enter Tryz.func12, Tryz.ntmps12
   go_wp2_with fail
   go_ret
   exact ⟨⟨1, rfl, by decide, fun h => by cases h⟩, Below.refl _ _⟩
 have i2 : ¬ (lim.length : Int) > 200 := by omega
 have HL2 : Hid (lim.length <= 200) := Lib.hid (by omega)
 clear hv h1 h2 h3 h4 c2
 generalize hm : lim.length = L2 at *
 have HM := Lib.hid hm
 clear hm
 obtain ⟨L, hL⟩ : ∃ L, l.length = L := ⟨_, rfl⟩
 have HLL := Lib.hid hL
 rw [hL]
 clear hL
 go_enter Tryz.func12, Tryz.ntmps12
 go_wp2
 go_loopw [12] (fun i wr => ∃ k : Nat, k <= L /\ i = .int .i64 k /\ Hid (Below w.heap.size w wr /\ k <= 80 /\ ∀ j, j < k -> (l.getD j default).bl.length <= 500)) (fun i _ => L - (intOf i).toNat)
 case atStart => exact ⟨0, Nat.zero_le _, rfl, Lib.hid ⟨Below.refl _ _, by omega, fun j hj => by omega⟩⟩
 case round =>
  obtain ⟨k, hk, rfl, H⟩ := hrel
  by_cases hlt : k < L
  . obtain ⟨b, off, hpp, hb, hx⟩ := px_at (ra_below HV.out H.out.1) (by rw [HLL.out]; omega)
    subst hpp
    obtain ⟨hld, hwf⟩ := hx k (by rw [HLL.out]; exact hlt)
    have HX := Lib.hid (show ∀ j, j < k + 1 -> ((l.getD k default).bl.length <= 500 -> (l.getD j default).bl.length <= 500) from fun j hj hh => by
     by_cases e : j = k
     . subst e; exact hh
     . exact H.out.2.2 j (by omega))
    have hvl : ∃ q c, (l.getD k default).v = .slice q (l.getD k default).bl.length c := by
     obtain ⟨q, c, e, _⟩ := ra_shape hwf.rv
     exact ⟨q, c, e⟩
    have hone := hwf.one
    generalize l.getD k default = x at *
    obtain ⟨W1, hW1, hst, HB⟩ := px_boxed wr x hone
    have c4 := HB.out.1.c4
    obtain ⟨q, c, hvv⟩ := hvl
    rw [hvv] at c4
    have B1 := Lib.hid (below_more H.out.1 HB.out.2)
    have HK := Lib.hid (And.intro hlt H.out.2.1)
    have i0 : (0 : Int) <= (k : Int) := by omega
    have i1 : (k : Int) < (L : Int) := by omega
    have i3 : ¬ (k : Int) < 0 := by omega
    have i4 : IntKind.i64.wrap ((k : Int) + 1) = ((k + 1 : Nat) : Int) := by rw [show (k : Int) + 1 = ((k + 1 : Nat) : Int) by omega]; exact i64_nat _ (by have := HK.out; omega)
    generalize hbl : x.bl.length = n at *
    by_cases c8 : 80 <= k
    . have i5 : (k : Int) >= 80 := by omega
      clear hx hb hk hlt hwf hone hvv hbl H HX c8
      go_wp2
      go_ret
      exact ⟨⟨k + 1, rfl, by have := HK.out; omega, fun h => by omega⟩, B1.out⟩
    have i5 : ¬ (k : Int) >= 80 := by omega
    have i5' : ¬ 80 <= k := c8
    by_cases c5 : 500 < n
    . have i6 : (n : Int) > 500 := by omega
      have i6' : 500 < n := c5
      clear hx hb hk hlt hwf hone hvv hbl H HX c8 c5
      go_wp2
      go_ret
      exact ⟨⟨k + 1, rfl, by have := HK.out; omega, fun h => by omega⟩, B1.out⟩
    . have i6 : ¬ (n : Int) > 500 := by omega
      have i6' : ¬ 500 < n := c5
      have HN : Hid (Below w.heap.size w W1 /\ k + 1 <= 80 /\ ∀ j, j < k + 1 -> (l.getD j default).bl.length <= 500) := Lib.hid ⟨B1.out, by omega, fun j hj => HX.out j hj (by omega)⟩
      clear hx hb hk hlt hwf hone hvv hbl H HX c8 c5
      go_wp2
      go_roundw
      case rel => exact ⟨k + 1, by have := HK.out; omega, by go_num, HN⟩
      case measure => have := HK.out; simp [intOf]; omega
  . obtain rfl : k = L := by omega
    have HF : Hid (Light l lim /\ Below w.heap.size w wr) := Lib.hid ⟨⟨by rw [HM.out]; exact HL2.out, by rw [HLL.out]; exact H.out.2.1, fun j hj => H.out.2.2 j (by rw [HLL.out] at hj; exact hj)⟩, H.out.1⟩
    clear H
    go_wp2
    go_ret
    exact ⟨⟨0, rfl, by decide, fun _ => HF.out.1⟩, HF.out.2⟩
theorem Hp.dlt {w : World} {a : Ha} {S : Hs} (h : Hp w a S) : ∀ k ∈ a.D, k < w.heap.size := by
 intro k hk
 simp only [Ha.D, List.mem_cons, List.not_mem_nil, or_false] at hk
 rcases hk with rfl | rfl | rfl | rfl
 . exact h.hb.lt
 . exact h.hb.lg.nm.lt
 . exact Whole.lt h.hb.lg.tq
 . exact h.cq.ltg
theorem hrun_new {w0 w6 w7 : World} {a : Ha} {g N : Nat} {S : Hs} {lb : List Bk} {fr : Bool} (hp : Hp w6 a S) (hi : HI a S 3 (firstL (8 * N : Nat)) 0) (hco : S.s.comes = false) (hfr : fr = true -> Free S.s /\ S.worn = false) (hlo : ∀ k ∈ a.D, w0.heap.size <= k) (h0 : w0.heap.size <= w6.heap.size) (hg : w6.heap.size <= g) (hb : Below w6.heap.size w6 w7) (hB : Below w0.heap.size w0 w6)
 (hR : ∀ D : List Nat, (∀ k ∈ D, k < w6.heap.size) -> Rm w7 (g :: D) g (firstL (8 * N : Nat)) lb 0) : HRun w0 w7 a g 3 fr S (firstL (8 * N : Nat)) 0 lb := by
 refine ⟨hp.below hb, hi, hco, hfr, hR a.D hp.dlt, below_more hB hb, fun k hk => ?_, fun q => by have := hp.dlt g q; omega⟩
 rcases List.mem_cons.1 hk with rfl | hk
 . omega
 . exact hlo k hk
theorem hdget_is {w : World} {a : Ha} {S : Hs} {K : Nat} {X : List Int} {r : Nat} (hp : Hp w a S) (hi : HI a S K X r) (hK : K < 1000) (hco : S.s.comes = false) :
 Calls Tryz.prog 31 #[.pointer (some ⟨a.z, 0, none⟩), .agg (pxc ⟨6, 0, 0, 0, .slice none 0 0, []⟩)] w fun e w' => (∃ v, e = .returned (.agg (anc 0 (r : Int) v)) /\ OwnA byE w.heap.size w' v []) /\ Below w.heap.size w w' := by
 refine (hdo_is ⟨6, 0, 0, 0, .slice none 0 0, []⟩ hp hi hK (px_nil w 6 0 0 (by decide) (by decide))).mono ?_
 intro e w' ho
 obtain ⟨S', g1, g2, _, _, _, h⟩ := do_calm hi hK hco ho
 cases h with
 | goes pl v h1 h2 h3 h4 h5 h6 h7 h8 h9 =>
   have hpl : pl = plG X r := h1
   subst hpl
   have hS : S' = S := h9 (.inl rfl)
   rw [hS] at g1
   exact ⟨⟨v, h2, h3⟩, below_same hp g1 g2⟩
 | worn pl v h1 h2 h3 h4 h5 h6 =>
   have hpl : pl = plG X r := h1
   rw [hpl] at h4; cases h4
 | wears pl v h1 h2 h3 h4 h5 h6 h7 h8 h9 =>
   have hpl : pl = plG X r := h1
   rw [hpl] at h4; cases h4.1
theorem hdread_is {w : World} {a : Ha} {S : Hs} {K : Nat} {X : List Int} {r : Nat} (o n : Int) (hp : Hp w a S) (hi : HI a S K X r) (hK : K < 1000) (hco : S.s.comes = false) (ho : -9223372036854775808 <= o /\ o <= 9223372036854775807) (hn : -9223372036854775808 <= n /\ n <= 9223372036854775807) :
 Calls Tryz.prog 31 #[.pointer (some ⟨a.z, 0, none⟩), .agg (pxc ⟨3, o, n, 0, .slice none 0 0, []⟩)] w fun e w' => (∃ v, e = .returned (.agg (anc (refF X o n) 0 v)) /\ OwnA byE w.heap.size w' v (rdR X o n)) /\ Below w.heap.size w w' := by
 refine (hdo_is ⟨3, o, n, 0, .slice none 0 0, []⟩ hp hi hK (px_nil w 3 o n ho hn)).mono ?_
 intro e w' ho
 obtain ⟨S', g1, g2, _, _, _, h⟩ := do_calm hi hK hco ho
 cases h with
 | goes pl v h1 h2 h3 h4 h5 h6 h7 h8 h9 =>
   have hpl : pl = plD X r o n := h1
   subst hpl
   have hS : S' = S := h9 (.inl rfl)
   rw [hS] at g1
   exact ⟨⟨v, h2, h3⟩, below_same hp g1 g2⟩
 | worn pl v h1 h2 h3 h4 h5 h6 =>
   have hpl : pl = plD X r o n := h1
   rw [hpl] at h4; cases h4
 | wears pl v h1 h2 h3 h4 h5 h6 h7 h8 h9 =>
   have hpl : pl = plD X r o n := h1
   rw [hpl] at h4; cases h4.1
theorem ref_used {X : List Int} {l : List Bk} (hB : blkF X = some l) {b : Bk} (hb : b ∈ l) (hu : b.u = true) {n : Int} (h0 : 0 <= n) (h1 : n <= 448) (h2 : n <= (b.s - 1) * 8) : refF X (offB b.a) n = 0 := by
 have hm := blkF_some hB
 have ho := (offB_in hm hb).2.2
 unfold refF
 rw [hB]
 exact if_pos (inL_yes.2 ⟨⟨h0, h1⟩, b, hb, hu, Int.le_refl _, by omega⟩)
theorem same_get {w : World} {v : Value} {r : Int} (hv : RA byE w v []) : Calls Tryz.prog 41 #[.agg (anc 0 r v), .agg (anc 0 r (.slice none 0 0))] w fun f w' => f = .returned (.bool true) /\ Below w.heap.size w w' := by
 have h := rsame_is (w := w) (e := 0) (o := r) (e' := 0) (o' := r) (l' := []) hv (own_nil_by 0 _).ra
 rwa [show decide ((0 : Int) = 0 /\ r = r /\ ([] : List Int) = []) = true by simp] at h
theorem says_is {w : World} {a : Ha} {S : Hs} {K : Nat} {X : List Int} {r : Nat} {D : List Nat} {g : Nat} {l : List Bk} (hp : Hp w a S) (hi : HI a S K X r) (hK : K < 1000) (hco : S.s.comes = false) (hm : Rm w D g X l (r : Int)) :
 Calls Tryz.prog 18 #[.pointer (some ⟨a.z, 0, none⟩), .pointer (some ⟨g, 0, none⟩)] w fun e w' => e = .returned (.int .i64 0) /\ Below w.heap.size w w' := by
 have HP := Lib.hid hp
 have HIi := Lib.hid hi
 have HM := Lib.hid hm
 have HL : Hid (l.length <= 256 /\ X.length <= 512 /\ mayL X.length l = true) := Lib.hid hm.len
 have HB := Lib.hid hm.hB
 have C1 := Lib.hid (fun w' (hb : Below w.heap.size w w') => hWords_is (hp.below hb).hb hi.num hi.hc.lg hi.live hi.hc.has)
 have CG := Lib.hid (fun w' (hb : Below w.heap.size w w') => hdget_is (hp.below hb) hi hK hco)
 have CR := Lib.hid (fun w' (hb : Below w.heap.size w w') o n ho hn => hdread_is o n (hp.below hb) hi hK hco ho hn)
 have CM := Lib.hid (fun w' (hb : Below w.heap.size w w') o n ho hn => rmread_is o n w' (hm.below hb) ho hn)
 have CB := Lib.hid (fun w' (hb : Below w.heap.size w w') => rmblk_is w' (hm.below hb))
 have hg1 : ∀ w', Below w.heap.size w w' -> w'.cell? ⟨g, 1, none⟩ = some (.int .i64 (r : Int)) := fun w' hb => by
  obtain ⟨mv, mW, _⟩ := (hm.below hb).rows
  rw [Whole.at_ mW]; rfl
 have HOK := Lib.hid hi.hc.ok
 clear hp hi hK hco hm
 obtain ⟨z, hz⟩ : ∃ z, a.z = z := ⟨_, rfl⟩
 rw [hz] at C1 CG CR ⊢
 clear hz
 go_enter Tryz.func18, Tryz.ntmps18
 go_wp2_with fail
 refine (C1.out _ (Below.refl _ _)).mono ?_; rintro e w1 ⟨⟨v1, rfl, o1⟩, b1⟩
 have B1 := Lib.hid b1
 have C2 := Lib.hid (blocks_is X v1 (some l) w1 o1.ru (by have := HL.out; omega) HOK.out HB.out)
 obtain ⟨q1, c1, rfl⟩ := o1.shape
 clear o1 b1
 go_wp2_with fail
 refine (C2.out).mono ?_; rintro e w2 ⟨⟨v2, rfl, o2⟩, b2⟩
 have o2' : OwnA blkE w1.heap.size w2 v2 l := o2
 have O2 := Lib.hid o2'.ra
 have B2 := Lib.hid (below_more B1.out b2)
 obtain ⟨q2, c2, rfl, _⟩ := ra_shape o2'.ra
 clear o2 o2' b2 C1 C2
 have bd : Below w2.heap.size w2 w2.drew := (Below.refl _ _).drew
 have cg7 : ∀ w', Below w2.heap.size w2 w' -> w'.cell? ⟨g, 1, none⟩ = some (.int .i64 (r : Int)) := fun w' hb => hg1 w' (below_more B2.out hb)
 go_wp2
 go_region_held3 (fun w' => Below w2.heap.size w2 w')
  (first | assumption | exact (Below.refl _ _).drew)
  (first
    | (go_at_call 54; refine (CB.out _ (below_more B2.out bd)).mono ?_; rintro e w3 ⟨⟨v3, rfl, o3⟩, b3⟩
       have O3 := Lib.hid o3.ra
       have B3 := Lib.hid (bd.trans b3)
       have B3' := B3.out
       clear o3 b3)
    | (go_at_call 53; refine (blks_same (ra_below O2.out B3.out) O3.out).mono ?_; rintro e w4 ⟨rfl, n4, rfl⟩
       have B4 := Lib.hid (below_drewN B3.out n4)
       have B4' := B4.out)
    | (go_at_call 31; refine (CG.out _ (below_more B2.out B4.out)).mono ?_; rintro e w5 ⟨⟨v5, rfl, o5⟩, b5⟩
       have O5 := Lib.hid o5.ra
       have B5 := Lib.hid (below_more B4.out b5)
       have B5' := B5.out
       clear o5 b5)
    | (go_at_call 41; refine (same_get O5.out).mono ?_; rintro e w6 ⟨rfl, b6⟩
       have B6 := Lib.hid (below_more B5.out b6)
       have B6' := B6.out
       clear b6))
 have HW : Hid (Below w.heap.size w w2 /\ Below w2.heap.size w2 w6) := Lib.hid ⟨B2.out, B6.out⟩
 clear B3' B4' B5' B6' cg7 hg1 bd
 go_wp2
 go_loopw [52] (fun i wr => ∃ k : Nat, k <= l.length /\ i = .int .i64 k /\ Hid (Below w2.heap.size w2 wr)) (fun i _ => l.length - (intOf i).toNat)
 case atStart => exact ⟨0, Nat.zero_le _, rfl, Lib.hid HW.out.2⟩
 case round =>
  obtain ⟨k, hk, rfl, H⟩ := hrel
  by_cases hlt : k < l.length
  . obtain ⟨bb, off, rfl, _, hx⟩ := blk_at (ra_below O2.out H.out) (by omega)
    obtain ⟨hld, _, _, _, hwf⟩ := hx k hlt
    have HK := Lib.hid hlt
    have HIN := Lib.hid (at_in HL.out.2.2 hlt)
    have HMB := Lib.hid (getD_mem (l := l) (k := k) hlt)
    have i0 : (0 : Int) <= (k : Int) := by omega
    have i1 : (k : Int) < (l.length : Int) := by omega
    have i3 : ¬ (k : Int) < 0 := by omega
    have i4 : IntKind.i64.wrap ((k : Int) + 1) = ((k + 1 : Nat) : Int) := by rw [show (k : Int) + 1 = ((k + 1 : Nat) : Int) by omega]; exact i64_nat _ (by have := HL.out; omega)
    clear hx hk hlt hwf
    generalize l.getD k default = x at *
    obtain ⟨W, hW, HV⟩ := blk_boxed wr x
    have c2 := HV.out.1.c2
    have BW := Lib.hid (below_more HW.out.1 (below_more H.out HV.out.2))
    cases hu : x.u with
    | false =>
      rw [hu] at c2
      have HN : Hid (Below w2.heap.size w2 W) := Lib.hid (below_more H.out HV.out.2)
      clear hu
      go_wp2
      go_roundw
      case rel => exact ⟨k + 1, by have := HK.out; omega, by go_num, HN⟩
      case measure => have := HK.out; simp [intOf]; omega
    | true =>
      rw [hu] at c2
      have HU := Lib.hid hu
      clear hu
      have c1 := HV.out.1.c1
      have lb := HV.out.1.load
      have hin := HIN.out
      unfold MayB at hin
      have i5 : IntKind.i64.wrap (x.s - 1) = x.s - 1 := IntWalk.i64_in _ (by omega)
      have i6 : IntKind.i64.wrap ((x.s - 1) * 8) = (x.s - 1) * 8 := IntWalk.i64_in _ (by omega)
      obtain ⟨n, hn⟩ : ∃ n : Int, min 448 ((x.s - 1) * 8) = n := ⟨_, rfl⟩
      have hn0 : 0 <= n /\ n <= 448 /\ n <= (x.s - 1) * 8 := by omega
      have hR := ref_used HB.out HMB.out HU.out hn0.1 hn0.2.1 hn0.2.2
      obtain ⟨o, ho⟩ : ∃ o, offB x.a = o := ⟨_, rfl⟩
      have CO := Lib.hid (fun w' => roff_is x o ho w')
      rw [ho] at hR
      have HO : Hid ((-9223372036854775808 <= o /\ o <= 9223372036854775807) /\ (-9223372036854775808 <= n /\ n <= 9223372036854775807)) := Lib.hid (by rw [<- ho]; unfold offB; split <;> omega)
      have HRr := Lib.hid hR
      clear hR hin
      go_wp2_with fail
      refine (CO.out _).mono ?_; rintro e w7 ⟨rfl, b7⟩
      have B7 := Lib.hid (below_more HV.out.2 b7)
      have BB7 := Lib.hid (below_more HW.out.1 (below_more H.out B7.out))
      have CD := Lib.hid (CR.out w7 BB7.out o n HO.out.1 HO.out.2)
      rw [HRr.out] at CD
      have V7 := Lib.hid (HV.out.1.below b7)
      clear b7 lb c1 c2
      go_wp2_with fail
      refine (CD.out).mono ?_; rintro e w8 ⟨⟨v8, rfl, o8⟩, b8⟩
      have hv1 := ra_one o8.ra
      obtain ⟨W9, hW9, hst9, HA9⟩ := an_boxed w8 0 0 hv1
      have B9 := Lib.hid (below_more B7.out (below_more b8 HA9.out.2))
      have BB9 := Lib.hid (below_more HW.out.1 (below_more H.out B9.out))
      have V9 := Lib.hid (V7.out.below (below_more b8 HA9.out.2))
      have O9 := Lib.hid (ra_below o8.ra HA9.out.2)
      obtain ⟨q8, c8, rfl, _⟩ := ra_shape o8.ra
      have lb9 := V9.out.load
      clear o8 b8 CD
      go_wp2_with fail
      refine (CO.out _).mono ?_; rintro e w10 ⟨rfl, b10⟩
      have B10 := Lib.hid (below_more B9.out b10)
      have BB10 := Lib.hid (below_more BB9.out b10)
      have CE := Lib.hid (CM.out w10 BB10.out o n HO.out.1 HO.out.2)
      rw [HRr.out] at CE
      have A10 := Lib.hid (HA9.out.1.below b10)
      have O10 := Lib.hid (ra_below O9.out b10)
      clear b10 lb9
      go_wp2_with fail
      refine (CE.out).mono ?_; rintro e w11 ⟨⟨v11, rfl, o11⟩, b11⟩
      have B11 : Hid (Below w2.heap.size w2 w11) := Lib.hid (below_more H.out (below_more B10.out b11))
      have a0 := (A10.out.below b11).c0
      have a2 := (A10.out.below b11).c2
      have hs := run_strConv (ra_below O10.out b11)
      have hs' := run_strConv o11.ra
      obtain ⟨q11, c11, rfl, _⟩ := ra_shape o11.ra
      generalize strOfNums (rdR X o n) = st at *
      generalize (rdR X o n).length = nd at *
      clear o11 b11 CE hv1
      go_wp2
      go_roundw
      case rel => exact ⟨k + 1, by have := HK.out; omega, by go_num, B11⟩
      case measure => have := HK.out; simp [intOf]; omega
  . obtain rfl : k = l.length := by omega
    have F : Hid (Below w.heap.size w wr) := Lib.hid (below_more HW.out.1 H.out)
    clear H hk hlt
    go_wp2_with fail
    go_ret
    exact ⟨rfl, F.out⟩
theorem Hp.mem {w w' : World} {a : Ha} {S : Hs} {s' : Nv} (h : Hp w a S) (hc : Chg [a.g] w w') (hN : Nm w' a.g s') : Hp w' a ⟨s', S.p, S.ct, S.wf⟩ :=
 ⟨⟨hc.whole h.hb.top (by simpa using h.hb.zz.1), h.hb.lg.mem hc hN, h.hb.zz⟩, h.cq.chg hc (by simpa using h.far.2.2.1) (by simpa using h.far.2.2.2.2.1), h.far⟩
theorem hformat_state {w : World} {a : Ha} {s : Nv} (hn : HNum a) (hN : Nm w a.g s) (hl : s.n = 16 + a.N + 1 + a.P) (hd : s.dark = false) (h0 : s.rg 0 ≠ 0) :
 Calls Tryz.prog 36 #[.pointer (some ⟨a.g, 0, none⟩), (Value.agg #[Value.int IntKind.i64 (a.N : Int), Value.int IntKind.i64 (a.P : Int), Value.int IntKind.i64 (a.per : Int), Value.int IntKind.i64 (a.b : Int)])] w fun e w' => e = .returned (.int .i64 5) /\ Below w.heap.size w w' := by
 obtain ⟨W, hW, H⟩ := plan_boxed w (a.N : Int) (a.P : Int) (a.per : Int) (a.b : Int)
 have hsn : (s.n : Int) = dvM (a.N : Int) (a.P : Int) := by unfold dvM; omega
 have HB := Lib.hid H.out.2
 have l0 := H.out.1.load
 have C1 := Lib.hid (fun w' (hb : Below W.heap.size W w') => hready_up (hn.may.may) ((hN.below H.out.2).below hb) hsn hd)
 have C2 := Lib.hid (fun w' (hb : Below W.heap.size W w') => hunused_no ((hN.below H.out.2).below hb) hd h0)
 clear hN hd h0 hsn H hl hn
 generalize (a.N : Int) = N at *
 generalize (a.P : Int) = P at *
 generalize (a.per : Int) = per at *
 generalize (a.b : Int) = b at *
 generalize a.g = g at *
 go_enter Tryz.func36, Tryz.ntmps36
 go_wp2_with fail
 refine (C1.out _ (Below.refl _ _)).mono ?_; rintro e w1 ⟨rfl, b1⟩
 have D1 := Lib.hid b1
 clear b1 l0
 go_wp2_with fail
 refine (C2.out _ D1.out).mono ?_; rintro e w2 ⟨rfl, rfl⟩
 have D2 := Lib.hid (below_more HB.out D1.out)
 go_wp2_with fail
 go_ret
 exact ⟨rfl, D2.out⟩
theorem zeros_lnO {N i : Nat} (hi : i < N) : zeros = lnO (List.replicate (8 * N) 0) i := by
 unfold lnO
 rw [List.drop_replicate, List.take_replicate, show min 8 (8 * N - 8 * i) = 8 by omega]
 rfl
theorem sound_none {n : Nat} (hn : 0 < n) (r : Int) : soundB (List.replicate n 0) r = false := by
 have h : blkF (List.replicate n 0) = none := by
  rw [blkF, rdF_no (by rw [List.length_replicate]; exact hn) (by
   have : (List.replicate n (0 : Int)).getD 0 0 = 0 := by rw [List.getD_eq_getElem?_getD, List.getElem?_replicate]; split <;> rfl
   rw [this]; unfold MayB; omega)]
  rfl
 unfold soundB
 rw [h]; rfl
theorem hopen_blank {w : World} {a : Ha} {lim : List Int} (hn : HNum a) (hN : Nm w a.g (newNv (16 + a.N + 1 + a.P) lim)) :
 Calls Tryz.prog 33 #[.pointer (some ⟨a.g, 0, none⟩), (Value.agg #[Value.int IntKind.i64 (a.N : Int), Value.int IntKind.i64 (a.P : Int), Value.int IntKind.i64 (a.per : Int), Value.int IntKind.i64 (a.b : Int)])] w fun e w' => e = .returned (.tuple #[.pointer none, .int .i64 6]) /\ Chg [a.g] w w' := by
 have hnN := hn.N
 obtain ⟨L, e2, e3, e4, e5⟩ := newNv_lg (n := 16 + a.N) (P := a.P) (by omega) hn.P (by have := hn.P; omega) lim
 have hR : lrec (16 + a.N) a.P a.per 0 (newNv (16 + a.N + 1 + a.P) lim) = (0, 0, newNv (16 + a.N + 1 + a.P) lim) := by rw [lrec, if_pos e2]
 have hIn : OIn a (newNv (16 + a.N + 1 + a.P) lim) (List.replicate (8 * a.N) 0) 0 (fun _ => 0) :=
  ⟨hn, L, rfl, ⟨List.length_replicate .., fun i hi => (e5 _).trans (zeros_lnO hi)⟩, fun j hj => by
    have : (List.replicate (8 * a.N) (0 : Int)).getD j 0 = 0 := by rw [List.getD_eq_getElem?_getD, List.getElem?_replicate]; split <;> rfl
    rw [this]; omega, rfl, by decide, fun q _ => ⟨rfl, by decide⟩, by rw [e3]; decide, by show (0 : Int) + 20000 < _; decide⟩
 refine (hopen_is hIn hN hR).mono ?_
 rintro e w' ⟨c1, o⟩
 have hs : soundB (List.replicate (8 * a.N) 0) ((0 : Nat) : Int) = false := sound_none (by omega) _
 rcases o with ⟨_, e1, _⟩ | ⟨_, _, he, _⟩ | ⟨e0, _⟩
 . rw [hs] at e1; cases e1
 . exact ⟨he, c1⟩
 . exact absurd rfl e0
theorem hopen_other {w : World} {a : Ha} {s : Nv} (hN : Nm w a.g s) (hl : s.n = 16 + a.N + 1 + a.P) :
 Calls Tryz.prog 33 #[.pointer (some ⟨a.g, 0, none⟩), (Value.agg #[Value.int IntKind.i64 ((a.N : Int) + 1), Value.int IntKind.i64 (a.P : Int), Value.int IntKind.i64 (a.per : Int), Value.int IntKind.i64 (a.b : Int)])] w fun e w' => e = .returned (.tuple #[.pointer none, .int .i64 1]) /\ Below w.heap.size w w' :=
 hopen_err (E := 1) (by decide) fun W hb => hready_arg (nl := (s.n : Int)) (fun w' hb' => lines_any a.g s w' ((hN.below hb).below hb')) (fun _ => by unfold dvM; omega)
theorem hopen_nil {w : World} (c0 e0 g0 k0 : Int) :
 Calls Tryz.prog 33 #[.pointer none, (Value.agg #[Value.int IntKind.i64 c0, Value.int IntKind.i64 e0, Value.int IntKind.i64 g0, Value.int IntKind.i64 k0])] w fun e w' => e = .returned (.tuple #[.pointer none, .int .i64 1]) /\ Below w.heap.size w w' :=
 hopen_err (E := 1) (by decide) fun W _ => hready_arg (nl := 0) (fun w' _ => lines_nil w') (fun h => by have := h.1; have := h.2.1; unfold dvM; omega)



theorem hi_block {B : Nat} {w : World} {v : Value} {l : List Int} (h : OwnI B w v l) (h0 : 0 < l.length) : ∃ g c, v = .slice (some ⟨g, 0, none⟩) l.length c /\ B <= g /\ g < w.heap.size := by
 obtain ⟨_, ⟨rfl, h1⟩ | ⟨g, cap, cur, rfl, hb, hg, h1, h2, _⟩⟩ := h
 . omega
 . exact ⟨g, cap, rfl, hb, (Array.getElem?_eq_some_iff.1 hg).1⟩
theorem hi_cells {B : Nat} {w : World} {g n c : Nat} {l : List Int} (hn : n = l.length) (h : OwnI B w (.slice (some ⟨g, 0, none⟩) n c) l) {j : Nat} (hj : j < l.length) : w.cell? ⟨g, j, none⟩ = some (.int .i64 (l.getD j 0)) /\ w.frozen? ⟨g, j, none⟩ = false := by
 subst hn
 refine ⟨?_, World.ownsRow.frozenAt (g := g) (cap := c) h j⟩
 rw [World.ownsRow.cellAt (g := g) (cap := c) h j (by omega)]
 simp [hj, iv]
theorem OwnI.below_h {B : Nat} {w w' : World} {v : Value} {l : List Int} (h : OwnI B w v l) (hb : Below w.heap.size w w') : OwnI B w' v l := own_up_i h hb
theorem Px.Wf.up_h {w w' : World} {x : Px} (h : x.Wf w) (hb : Below w.heap.size w w') : x.Wf w' := ⟨h.wd, h.wo, h.wn, h.wm, h.one, ra_below h.rv hb⟩
def Teq (s t : Ct) : Prop := s.n = t.n /\ ∀ q, q < s.n -> s.c q = t.c q
def Apa (a b : Ha) : Prop := a.z ∉ b.D /\ a.g ∉ b.D /\ a.y ∉ b.D /\ a.q ∉ b.D /\ a.x ∉ b.D /\ a.k ∉ b.D /\ a.kg ∉ b.D
structure Two (w0 wi : World) (a1 a2 : Ha) (K : Nat) (S1 S2 : Hs) (X : List Int) (r : Nat) : Prop where
 p1 : Hp wi a1 S1
 i1 : HI a1 S1 K X r
 f1 : Free S1.s /\ S1.worn = false
 p2 : Hp wi a2 S2
 i2 : HI a2 S2 K X r
 f2 : Free S2.s /\ S2.worn = false
 t : Teq S1.ct S2.ct
 b : Below w0.heap.size w0 wi
 lo1 : ∀ k ∈ a1.D, w0.heap.size <= k
 lo2 : ∀ k ∈ a2.D, w0.heap.size <= k
 far1 : Apa a1 a2
 far2 : Apa a2 a1
theorem same_self {w : World} {e o : Int} {v v' : Value} {l : List Int} (hv : RA byE w v l) (hv' : RA byE w v' l) : Calls Tryz.prog 41 #[.agg (anc e o v), .agg (anc e o v')] w fun f w' => f = .returned (.bool true) /\ Below w.heap.size w w' := by
 have h := rsame_is (w := w) (e := e) (o := o) (e' := e) (o' := o) hv hv'
 rwa [show decide (e = e /\ o = o /\ l = l) = true by simp] at h
end Go.Proofs.YtjkefcidbcifpaaGreat
