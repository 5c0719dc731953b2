/-
  A commit of one line is as a Put of it; others are as they were. No conditions.
-/
import Derived.Test.YtjghhcbiaklomaaMgd
import Derived.BigQuiet
namespace Go.Proofs.Ytjghhcbiaklomaa.logOne
set_option maxRecDepth 100000
open Go.Proofs.Ytjghhcbiaklomaa Go.ChangeShapes Go.WideShapes Go.ChangeAt Go.RowKit

theorem hv_one (X : Hm) (f : Nat → List Int) {m : Nat} (hm : X.i = ((16 + m : Nat) : Int)) (i : Nat) : hv [X] f (16 + i) = upd (fun i => f (16 + i)) m X.l i := by
  unfold hv upd
  by_cases e : i = m
  · subst e
    rw [if_pos rfl]; simp [hm]
  · rw [if_neg e, List.find?_eq_none.2]
    intro x hx
    rw [List.mem_singleton.1 hx, hm]
    simp; omega
theorem one_may {n m : Nat} {l : List Int} (hm : m < n) : MayH ((16 + n : Nat) : Int) [⟨((16 + m : Nat) : Int), l⟩] :=
  ⟨by omega, Nat.le_refl 1, (by show 1 ≤ 14; decide), fun x hx => by rw [List.mem_singleton.1 hx]; dsimp only; omega, by simp⟩
theorem hv_load {w : World} {g : Nat} {c : Hm} (h : Hv w g c) : (homeLoad (.pointer (some ⟨g, 0, none⟩))).run Try.prog w = .ok (.agg (hmc c)) w :=
  run_homeLoad (fun j u hj => by rw [Nat.zero_add, h.at_]; exact hj) h.2

set_option maxHeartbeats 8000000 in
theorem walk_ (a0 a1 : Int) (l2 : List Hm) (v2 : Value) (a3 : Int) (w : World) (h2 : RA homeE w v2 l2) :
    Calls Try.prog 6 #[.int .i64 a0, .int .i64 a1, v2, .int .i64 a3] w fun e w' => e = .returned (.bool true) ∧ Below w.heap.size w w' := by
  obtain ⟨pv, cap, rfl, _, _⟩ := ra_shape h2
  have HV := Lib.hid h2
  clear h2
  by_cases h60 : 60 < l2.length
  · have i1 : (l2.length : Int) > 60 := by omega
    clear h60 HV
    generalize l2.length = L at *
    go_enter Try.func6, Try.ntmps6
    go_wp2_with fail
    refine (awake_any ctr _).mono ?_; rintro e w' ⟨rfl, hb⟩
    go_wp2_with fail
    go_ret
    exact ⟨rfl, hb⟩
  have i1 : ¬ (l2.length : Int) > 60 := by omega
  have HL60 : Hid (l2.length ≤ 60) := Lib.hid (by omega)
  have HZ := Lib.hid (sized_any a0 0 a1 w)
  clear h60
  go_enter Try.func6, Try.ntmps6
  go_wp2_with fail
  refine (HZ.out).mono ?_; rintro e w' ⟨⟨n, P0, per, rfl, n1, n2, _, n4, n5⟩, rfl⟩
  have HM := Lib.hid (made_yes ctr (n := n) (P := 0) (per := per) (.slice none 0 0) [] w n1 n2 (by decide) n4 n5 (ri_nil w))
  have HN : Hid (1 ≤ n ∧ n ≤ 20 ∧ per ≤ 20) := Lib.hid ⟨n1, n2, n5⟩
  have NL := Lib.hid (newNv_lg (n := 16 + n) (P := 0) (by omega) (by decide) (by omega) [])
  have NC : Hid ((newNv (16 + n + 1 + 0) []).calm ∧ (newNv (16 + n + 1 + 0) []).c = 0 ∧ Free (newNv (16 + n + 1 + 0) [])) := Lib.hid ⟨newNv_calm _ _, rfl, newNv_free _⟩
  have hmk := run_make_want n (by omega)
  have i0 : (0 : Int) ≤ (n : Int) := by omega
  obtain ⟨s0, e0⟩ : ∃ s0, newNv (16 + n + 1 + 0) [] = s0 := ⟨_, rfl⟩
  rw [e0] at HM NL NC
  clear n1 n2 n4 n5 e0
  go_wp2_with fail
  refine (HM.out).mono ?_; rintro e w1 ⟨x, g, y, q, rfl, hx, hg, hy, hq, hL, hb⟩
  obtain ⟨gw, hgw⟩ : ∃ gw, w1.heap.size = gw := ⟨_, rfl⟩
  have W3 := Wt.new w1 n
  have hB : Below w.heap.size w (w1.alloc (.cells (tab (n * 8) (wl fun _ => zeros)) 39)) := bal hb
  have hO : Ol w.heap.size (w1.alloc (.cells (tab (n * 8) (wl fun _ => zeros)) 39)) gw n n (fun _ => zeros) := by
    rw [← hgw]; exact Ol.of_wt W3 hb.size (by unfold maxLen; have := HN.out; omega)
  have GWL : Hid (w.heap.size ≤ gw) := Lib.hid (by rw [← hgw]; exact hb.size)
  have KP : Hid (Kp w (w1.alloc (.cells (tab (n * 8) (wl fun _ => zeros)) 39)) x g y q n 0 per gw 0 0 s0 (fun i => view s0 (16 + n) 0 (16 + i)) ∧ Free s0 ∧ lk s0 = 0) :=
    Lib.hid ⟨⟨hL.below (bal (Below.refl _ _)), NL.out.1, NC.out.1, hO.as fun i _ => NL.out.2.2.2.2 _, hB, ⟨hg, hy, by have := hL.nm.lt; omega, by have := hL.tq.lt; omega, by have := hL.xlt; omega, by have := hL.lq.lt; omega⟩, by have := HN.out; have := NL.out.2.2.1; omega, by rw [NC.out.2.1]; exact Int.le_refl _⟩, NC.out.2.2, NL.out.2.1⟩
  have hmk2 := hmk w1
  clear hmk
  rw [hgw] at hmk2
  clear hx hg hy hq hL hb W3 hB hO hgw
  go_wp2
  go_loopw [39] (fun i wr => ∃ k : Nat, k ≤ l2.length ∧ i = .int .i64 k ∧ Hid (∃ p s, Kp w wr x g y q n 0 per gw k p s (fun i => view s (16 + n) 0 (16 + i)) ∧ Free s ∧ lk s = 0)) (fun i _ => l2.length - (intOf i).toNat)
  case atStart => exact ⟨0, Nat.zero_le _, rfl, Lib.hid ⟨_, _, KP.out⟩⟩
  case round =>
    obtain ⟨k, hk, rfl, H⟩ := hrel
    obtain ⟨p, s, hs, hF, h0⟩ := H.out
    have K0 := Lib.hid hs
    have F0 := Lib.hid (And.intro hF h0)
    clear hs H KP hmk2 hF h0
    by_cases hlt : k < l2.length
    · obtain ⟨b, off, e, _, hx⟩ := home_at (ra_below HV.out K0.out.bel) (by omega)
      subst e
      obtain ⟨hl, _, _, hwf⟩ := hx k hlt
      obtain ⟨X, hX⟩ : ∃ X, l2.getD k default = X := ⟨_, rfl⟩
      rw [hX] at hl hwf
      have hw8 := hwf.len
      obtain ⟨W, hW, H1⟩ := home_boxed wr hw8
      obtain ⟨u, hu, _⟩ := u64_nat X.i
      obtain ⟨Xl, hXl⟩ : ∃ z, X.l = z := ⟨_, rfl⟩
      have d0 := H1.out.1.slot
      have f0 := H1.out.1.free 0
      obtain ⟨xi, hxi⟩ : ∃ z, X.i = z := ⟨_, rfl⟩
      rw [hxi] at d0 hu
      obtain ⟨m, hm⟩ : ∃ m, u % n = m := ⟨_, rfl⟩
      have hmn : m < n := by rw [← hm]; exact Nat.mod_lt _ (by have := HN.out; omega)
      obtain ⟨Zn, hZn⟩ : ∃ Zn : Nat, Zn = 16 + m := ⟨_, rfl⟩
      have ZE := Lib.hid hZn
      have k1 : IntKind.u64.wrap (n : Int) = (n : Int) := u64_same (by omega) (by have := HN.out; omega)
      have k2 : (u : Int).tmod (n : Int) = (m : Int) := by rw [← hm]; exact tmod_nat u n
      have k3 : IntKind.i64.wrap (m : Int) = (m : Int) := i64_nat _ (by have := HN.out; omega)
      have k4 : IntKind.i64.wrap (16 + (m : Int)) = (Zn : Int) := by rw [show 16 + (m : Int) = ((Zn : Nat) : Int) by omega]; exact i64_nat _ (by have := HN.out; omega)
      have k5 : ((n : Int) == 0) = false := beq_eq_false_iff_ne.2 (by have := HN.out; omega)
      have k6 : IntKind.i64.wrap ((Zn : Int) - 16) = (m : Int) := by rw [show (Zn : Int) - 16 = (m : Int) by omega]; exact i64_nat _ (by have := HN.out; omega)
      have k7 : (0 : Int) ≤ (m : Int) := by omega
      have k8 : (m : Int) < (n : Int) := by omega
      have H2 := H1.out.1.set_ (Zn : Int)
      obtain ⟨V, hV⟩ : ∃ V, W.setCell ⟨wr.heap.size, 0, none⟩ (.int .i64 (Zn : Int)) = V := ⟨_, rfl⟩
      have HBV : Below wr.heap.size wr V := by
        rw [← hV]
        exact ((Chg.of_below H1.out.2 [wr.heap.size]).setCell (p := ⟨wr.heap.size, 0, none⟩) (.inl (by simp)) _).below (Below.refl _ _) (Nat.le_refl _) (fun j hj => by rw [List.mem_singleton.1 hj]; exact Nat.le_refl _)
      rw [hV, hXl] at H2
      have KV := Lib.hid (K0.out.below HBV)
      have HX := Lib.hid H2
      have ll := hv_load H2
      have MY : Hid (MayH ((16 + n : Nat) : Int) [⟨(Zn : Int), Xl⟩]) := Lib.hid (by rw [hZn]; exact one_may hmn)
      have hx8 : Xl.length = 8 := by rw [← hXl]; exact hw8
      have i2 : (0 : Int) ≤ (k : Int) := by omega
      have i3 : (k : Int) < (l2.length : Int) := by omega
      have i4 : ¬ (k : Int) < 0 := by omega
      have j0 : IntKind.i64.wrap ((k : Int) + 1) = ((k + 1 : Nat) : Int) := by rw [show (k : Int) + 1 = ((k + 1 : Nat) : Int) by omega]; exact i64_nat _ (by have := HL60.out; omega)
      have HK : Hid (k < l2.length ∧ k < 100 ∧ m < n) := Lib.hid ⟨hlt, by have := HL60.out; omega, hmn⟩
      have AOK : AllOk homeE [⟨(Zn : Int), Xl⟩] := fun z hz => by
        rw [List.mem_singleton.1 hz]
        refine ⟨hx8, ?_⟩
        have := HN.out
        simp [Lit.wf, IntKind.min, IntKind.max, IntKind.signed, IntKind.bits]; omega
      have OW := own_lit_a homeE V (l := [⟨(Zn : Int), Xl⟩]) AOK (by unfold maxLen; show 1 ≤ _; decide)
      obtain ⟨U, hU⟩ : ∃ U, V.alloc (.cells (hmc ⟨(Zn : Int), Xl⟩) 41) = U := ⟨_, rfl⟩
      have eU : V.alloc (.cells ((([⟨(Zn : Int), Xl⟩] : List Hm).flatMap homeE.enc).toArray) homeE.e) = U := by
        rw [← hU]
        show V.alloc (.cells (Hm.cells _ ++ []).toArray _) = _
        rw [List.append_nil]; rfl
      rw [eU] at OW
      have HBU : Below V.heap.size V U := by rw [← hU]; exact bal (Below.refl _ _)
      have KU := Lib.hid (KV.out.below HBU)
      have HXU := Lib.hid (HX.out.below HBU)
      have NB : Hid (wr.heap.size ∉ [g, y] ∧ V.heap.size ∉ [g, y]) := Lib.hid (by
        have h1 := K0.out.lg.nm.lt; have h2 := K0.out.lg.tq.lt; have h3 := HBV.size
        constructor <;> simp <;> omega)
      have CM := ctr.com U x g y q (16 + n) 0 per p s _ [⟨(Zn : Int), Xl⟩] KU.out.lg KU.out.ok KU.out.calm.1 KU.out.room F0.out.2 (fun w' hc => ra_chg OW.ra hc fun b hb => by cases hb; exact NB.out.2) MY.out
      have KC := fun (w' : World) => KU.out.com (w' := w') HK.out.2.1 F0.out.2 MY.out (fun z hz => by rw [List.mem_singleton.1 hz]; exact hx8)
      obtain ⟨g1, g2, g3⟩ := lcom_go (h := [⟨(Zn : Int), Xl⟩]) per p KU.out.ok MY.out (fun z hz => by rw [List.mem_singleton.1 hz]; exact hx8) F0.out.1 KU.out.room.m
      generalize lcom (16 + n) 0 per p [⟨(Zn : Int), Xl⟩] s = R at *
      obtain ⟨e1, p1, s1⟩ := R
      dsimp only at g1
      subst g1
      have CM := Lib.hid CM
      have KC := Lib.hid KC
      have GG := Lib.hid (And.intro g2 g3)
      clear hx hX hwf hlt hk hmn hm hZn hXl hxi H2 HBV OW eU AOK HBU g2 g3
      go_wp2_with fail
      refine (CM.out).mono ?_; rintro e w5 ⟨rfl, hL, hC⟩
      obtain ⟨k2, ko⟩ := KC.out w5 hL hC
      have K2 := Lib.hid k2
      have VX := Lib.hid (HXU.out.chg hC NB.out.1)
      have EV : Hid (∀ i, i < n → view s1 (16 + n) 0 (16 + i) = upd (fun i => view s (16 + n) 0 (16 + i)) m Xl i) := Lib.hid fun i hi => by
        rcases ko with ⟨_, hv⟩ | ⟨e, _⟩
        · rw [hv _ (by omega) (by omega)]; exact hv_one _ _ (by rw [ZE.out]) i
        · cases e
      have PD := ctr.pend w5 x g y q (16 + n) 0 per p1 s1 K2.out.lg K2.out.ok K2.out.calm.1
      rw [show decide (lk s1 ≠ 0) = false by simp [GG.out.2]] at PD
      have PD := Lib.hid PD
      clear hL hC k2 ko
      go_wp2_with fail
      refine (PD.out).mono ?_; rintro e w6 ⟨rfl, hb⟩
      have K3 := Lib.hid (K2.out.below hb)
      have VY := Lib.hid (VX.out.below hb)
      obtain ⟨hst, kst⟩ := K3.out.lay HK.out.2.2 hx8 GWL.out
      obtain ⟨Z, hZ⟩ : ∃ Z, w6.setCells gw (m * 8) (Xl.map uv) = Z := ⟨_, rfl⟩
      rw [hZ] at hst kst
      have KZ : Hid (Kp w Z x g y q n 0 per gw (k + 1) p1 s1 (fun i => view s1 (16 + n) 0 (16 + i)) ∧ Free s1 ∧ lk s1 = 0) := Lib.hid ⟨kst.as fun i hi => EV.out i hi, GG.out⟩
      have d2 := VY.out.slot
      have d3 := VY.out.line
      clear hb kst ll d0
      go_wp2
      exact ⟨⟨k + 1, by have := HK.out; omega, by go_num, Lib.hid ⟨_, _, KZ.out⟩⟩, by have := HK.out; simp [intOf]; omega⟩
    · obtain rfl : k = l2.length := by omega
      obtain ⟨u, hu, _⟩ := u64_nat a3
      obtain ⟨m, hm⟩ : ∃ m, u % n = m := ⟨_, rfl⟩
      have hmn : m < n := by rw [← hm]; exact Nat.mod_lt _ (by have := HN.out; omega)
      have k1 : IntKind.u64.wrap (n : Int) = (n : Int) := u64_same (by omega) (by have := HN.out; omega)
      have k2 : (u : Int).tmod (n : Int) = (m : Int) := by rw [← hm]; exact tmod_nat u n
      have k3 : IntKind.i64.wrap (m : Int) = (m : Int) := i64_nat _ (by have := HN.out; omega)
      have k4 : IntKind.i64.wrap (16 + (m : Int)) = ((16 + m : Nat) : Int) := by rw [show 16 + (m : Int) = ((16 + m : Nat) : Int) by omega]; exact i64_nat _ (by have := HN.out; omega)
      have k5 : ((n : Int) == 0) = false := beq_eq_false_iff_ne.2 (by have := HN.out; omega)
      have k7 : (0 : Int) ≤ (m : Int) := by omega
      have k8 : (m : Int) < (n : Int) := by omega
      have GC := ctr.get wr x g y q (16 + n) 0 per p (16 + m) s K0.out.lg K0.out.ok K0.out.calm.1 K0.out.room (by omega) (by omega)
      have h8 := K0.out.own.wide hmn
      have lw := K0.out.own.load hmn
      obtain ⟨Y, hY⟩ : ∃ Y, view s (16 + n) 0 (16 + m) = Y := ⟨_, rfl⟩
      rw [hY] at GC h8 lw
      have YE := Lib.hid hY
      have GC := Lib.hid GC
      have MN := Lib.hid hmn
      clear hm hmn hY hk hlt lw
      go_wp2_with fail
      refine (GC.out).mono ?_; rintro e w2 ⟨rfl, hb⟩
      obtain ⟨W1, hW1, H1⟩ := boxed1 w2 h8
      have K1 := Lib.hid ((K0.out.below hb).below H1.out.2)
      have l0 : ∀ w', Below W1.heap.size W1 w' → (lineLoad (.pointer (some ⟨w2.heap.size, 0, none⟩))).run Try.prog w' = .ok (.agg (lc Y)) w' := fun w' hb => (H1.out.1.below hb).load
      have l1 : ∀ w', Below W1.heap.size W1 w' → (lineLoad (.pointer (some ⟨gw, m * 8, none⟩))).run Try.prog w' = .ok (.agg (lc Y)) w' := fun w' hb => by
        have := (K1.out.own.below hb).load MN.out
        rw [YE.out] at this; exact this
      have RC := Lib.hid fun (w' : World) (hb : Below W1.heap.size W1 w') => rcv_zero (K1.out.lg.below hb) K1.out.calm.1 (by rw [K1.out.ok.r1, F0.out.2]; rfl)
      clear hb
      go_wp2
      go_region_held3 (fun w' => Below W1.heap.size W1 w')
        (first | exact (Below.refl _ _).drew | assumption | exact below_more ‹Below W1.heap.size W1 _› hbq)
        (first
          | (go_at_call 21; refine (RC.out _ (by first | assumption | exact (Below.refl _ _).drew)).mono ?_; rintro e wq ⟨rfl, rfl⟩)
          | (go_at_call 11; refine (awake_any ctr _).mono ?_; rintro e wq ⟨rfl, hbq⟩))
      have B9 := Lib.hid (below_base K1.out.bel K1.out.bel.size ‹Below W1.heap.size W1 _›)
      go_wp2
      go_ret
      exact ⟨rfl, B9.out⟩

theorem walk (a0 a1 : Int) (l2 : List Hm) (v2 : Value) (a3 : Int) (w : World) (_ : (Lit.int .i64 a0).wf = true) (_ : (Lit.int .i64 a1).wf = true) (h2 : RA homeE w v2 l2) (_ : (Lit.int .i64 a3).wf = true) :
    Calls Try.prog 6 #[.int .i64 a0, .int .i64 a1, v2, .int .i64 a3] w fun e w' => e = .returned (.bool true) ∧ Below w.heap.size w w' := walk_ a0 a1 l2 v2 a3 w h2

set_option maxRecDepth 100000 in
theorem lifted (os : Os) (started : os.Started) (H : Type) (enc : TypeId × Value → H) :
    ReturnsInHanded {} Try.checked os 6 .any (Rows.logOneSpec.pre6 enc Try.prog Try.f6 Rows.logOneRow.domain false) (Rows.logOneSpec.post enc Try.prog Try.f6 false true false false) := by
  refine returnsInHanded_of_change (C := Try.checked) own started (by kernel_rfl) Try.func6
    (ChangeSpec.witness6 (enc := enc) (C := Try.checked) false ⟨#[], #[.int .i64 0, .int .i64 0, .slice none 0 0, .int .i64 0], []⟩ 8 (by kernel_rfl) (by kernel_rfl) (by kernel_rfl) (by kernel_rfl)) ?_
  intro W base args ds gs before hval0 hW hcnd _
  have hval : ∀ (j : Nat) t v, Try.f6.params[j]? = some t → args[j]? = some v → Value.okWide Try.prog W .any base t v := hval0
  have hW' := hW
  have hlt := hW.lt
  obtain ⟨p, q, hA0, hV, hpq, hfz, hnd⟩ := hW
  have hA : DataW.TrodAll enc Try.prog W 0 (fun _ => true) true Try.f6.params.toList args.toList ds p := hA0
  rw [Try.params6] at hA hval
  obtain ⟨v0, vs0, d0, ds0, p0, q0, hargs, rfl, hp, h0, r0⟩ := trodAll_cons hA
  obtain ⟨v1, vs1, d1, ds1, p1, q1, rfl, rfl, rfl, h1, r1⟩ := trodAll_cons r0
  obtain ⟨v2, vs2, d2, ds2, p2, q2, rfl, rfl, rfl, h2, r2⟩ := trodAll_cons r1
  obtain ⟨v3, vs3, d3, ds3, p3, q3, rfl, rfl, rfl, h3, r3⟩ := trodAll_cons r2
  obtain ⟨rfl, rfl, rfl⟩ := trodAll_nil r3
  obtain rfl : args = #[v0, v1, v2, v3] := by cases args; simp_all
  obtain ⟨rfl, rfl⟩ := trodVars_none hV
  have hlt' : ∀ x ∈ before, x.block < W.heap.size := fun x hx => hlt x hx
  obtain ⟨a0, rfl, rfl, rfl, w0⟩ := open_int Try.underlying3 (hval 0 3 v0 rfl rfl) h0
  obtain ⟨a1, rfl, rfl, rfl, w1⟩ := open_int Try.underlying3 (hval 1 3 v1 rfl rfl) h1
  obtain ⟨l2, w2⟩ := homes_in (hval 2 33 v2 rfl rfl) h2
  obtain ⟨a3, rfl, rfl, rfl, w3⟩ := open_int Try.underlying3 (hval 3 3 v3 rfl rfl) h3
  refine (walk a0 a1 l2 v2 a3 W w0 w1 w2 w3).mono fun e W' ⟨he, hb⟩ => ?_
  subst he
  exact ⟨_, rfl, law_post rfl (by kernel_rfl) hW' (by rw [Try.params6]; intro t ht; simp only [List.mem_cons, List.not_mem_nil, or_false] at ht; (repeat' (first | (rcases ht with rfl | ht) | subst ht)) <;> exact ⟨by kernel_rfl, of_decide_eq_true (by kernel_rfl)⟩) rfl hb⟩

theorem over : Rows.logOneRow.holds Try.pinned (OpenSpec.ofChange Rows.logOneSpec) :=
  OpenClaim.holds_of_wide 6 Try.f6 rfl rfl rfl rfl rfl rfl rfl ⟨rfl, rfl, rfl, rfl, rfl⟩ rfl rfl rfl rfl rfl (by kernel_rfl) Try.func6 (by kernel_rfl)
    (of_decide_eq_true (by kernel_rfl)) (by unfold Func.isWrapper; first | (rw [if_pos (by decide +kernel)]; kernel_rfl) | (rw [if_neg (by decide +kernel)]; exact ⟨rfl, rfl⟩))
    (fun os started H enc _ => lifted os started H enc)

theorem proved : Rows.LogOneSaid := over
end Go.Proofs.Ytjghhcbiaklomaa.logOne
