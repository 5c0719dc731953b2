/-
  Contracts of package model: bytes are written.
-/
import Derived.Test.YtkpefnjohdjejaaMrw
import Derived.Test.YtkpefnjohdjejaaMow
import Derived.Test.YtkpefnjohdjejaaZme
namespace Go.Proofs.Ytkpefnjohdjejaa
set_option maxRecDepth 100000
open Go.ChangeShapes Go.WideShapes Go.ChangeAt Go.RowKit

theorem mwrite_nil (o : Int) (q : Option Addr) (n d : Nat) (w : World) : Calls Try.prog 69 #[.pointer none, .int .i64 o, .slice q n d] w fun e w' => e = .returned (.int .i64 1) ∧ Below w.heap.size w w' := by
  have C := Lib.hid (mhol_nil o n w)
  go_enter Try.func69, Try.ntmps69
  go_wp2_with fail
  refine (C.out).mono ?_; rintro e w1 ⟨rfl, b1⟩
  go_wp2_with fail
  go_ret
  exact ⟨rfl, b1⟩
set_option maxHeartbeats 4000000 in
theorem mwrite_is {D : List Nat} {g : Nat} {wl : List Int} {l : List Bk} {r : Int} (o : Int) (bl : List Int) (u : Value) (w : World) (h : Mo w D g wl l r) (hu : RA byE w u bl) (hbl : bl.length ≤ 100000) : Calls Try.prog 69 #[.pointer (some ⟨g, 0, none⟩), .int .i64 o, u] w fun e w' =>
    e = .returned (.int .i64 (refF wl o bl.length)) ∧ ∃ M, WrT wl bl o M ∧ Mo w' D g (appF wl M) l r ∧ Chg [g] w w' := by
  have C := Lib.hid (mhol_is o bl.length w h)
  have hr := ref_of h.hB o bl.length
  obtain ⟨q, d, rfl, _, _⟩ := ra_shape hu
  cases e : hoQ l o bl.length with
  | none =>
    rw [e] at C hr
    have hw : WrT wl bl o [] := by
      unfold WrT
      rw [hr, if_neg (by simp)]
    have FIN := Lib.hid (fun w' (hb : Below w.heap.size w w') => (show ∃ M, WrT wl bl o M ∧ Mo w' D g (appF wl M) l r ∧ Chg [g] w w' from ⟨[], hw, h.below hb, Chg.of_below hb _⟩))
    rw [hr]
    simp only [oi, Option.isSome_none, Bool.false_eq_true, if_false] at C ⊢
    clear h e hr hw hu hbl
    generalize bl.length = L at *
    go_enter Try.func69, Try.ntmps69
    go_wp2_with fail
    refine (C.out).mono ?_; rintro e w1 ⟨rfl, b1⟩
    have FQ := Lib.hid (FIN.out w1 b1)
    clear FIN b1
    go_wp2_with fail
    go_ret
    exact ⟨rfl, FQ.out⟩
  | some j =>
    rw [e] at C hr
    rw [hr]
    simp only [oi, Option.isSome_some, if_true] at C hr ⊢
    obtain ⟨hlen, hwl, hm⟩ := h.len
    obtain ⟨v, us, hW, hR, hF, hU, hP⟩ := h.rows
    obtain ⟨hn, hj, h1, h2⟩ := hoQ_some e
    have hju : j < us.length := by rw [hU.len]; exact hj
    obtain ⟨hat, hmem⟩ := hU.at_ hju
    obtain ⟨hbm, hbu, q3, q4, q5, q6, q7⟩ := usd_in hm (getD_mem hj)
    rw [← hat] at h1 h2 hbm hbu q3 q4 q5 q7
    obtain ⟨x1, x2, x3⟩ := hU.ws _ hmem
    obtain ⟨px, cx, hxv, _⟩ := id x2
    obtain ⟨b, n, cap, rfl⟩ : ∃ b n c, v = .slice (some ⟨b, 0, none⟩) n c := by
      rcases hP with rfl | hP
      · obtain ⟨_, _, e, _⟩ := ra_shape hR
        injection e with _ e _
        omega
      · exact hP
    obtain ⟨b', off, c', e0, hlc, hld⟩ := ex_ld hR hju
    cases e0
    simp only [Nat.zero_add] at hld
    have c1 : ∀ w', Below w.heap.size w w' → w'.cell? ⟨g, 1, none⟩ = some (.slice (some ⟨b, 0, none⟩) us.length cap) := fun w' hb => by rw [hb.cell (p := ⟨g, 1, none⟩) hW.lt, Whole.at_ hW]; rfl
    have f1 : ∀ w', Below w.heap.size w w' → w'.frozen? ⟨g, 1, none⟩ = false := fun w' hb => Whole.free ((hb.block g hW.lt).trans hW) 1
    have hl1 := cut_len q4 q3 q5
    have hk2 := cut_ok h.ok (us.getD j default).b
    have hsp : us = us.take j ++ us.getD j default :: us.drop (j + 1) := by
      rw [List.getD_eq_getElem?_getD, List.getElem?_eq_getElem hju]
      exact (List.take_append_drop j us).symm.trans (by rw [List.drop_eq_getElem_cons hju]; rfl)
    have hap := usd_apart hm
    rw [← hU.map, hsp, List.map_append, List.map_cons] at hap
    obtain ⟨_, hap2, hap3⟩ := List.pairwise_append.1 hap
    have hap4 := (List.pairwise_cons.1 hap2).1
    clear hap hap2
    obtain ⟨X, hX⟩ : ∃ X, us.getD j default = X := ⟨_, rfl⟩
    rw [hX] at hld hxv h1 h2 q3 q4 q5 q7 hbm hbu hl1 hk2 x1 x2 hsp hap3 hap4
    obtain ⟨A, hA⟩ : ∃ A : Nat, X.b.a = A := ⟨X.b.a.toNat, by omega⟩
    obtain ⟨S, hS⟩ : ∃ A : Nat, X.b.s = A := ⟨X.b.s.toNat, by omega⟩
    obtain ⟨f, hf⟩ : ∃ f : Nat, o - offB X.b.a = f := ⟨(o - offB X.b.a).toNat, by omega⟩
    have hAt : X.b.a.toNat = A := by omega
    have hSt : X.b.s.toNat = S := by omega
    rw [hSt] at hl1
    have ho : o = ((8 * (A + 1) + f : Nat) : Int) := by omega
    have hfB : f + bl.length ≤ 8 * (S - 1) := by omega
    -- what is told of the edits
    have CE := Lib.hid (fun (w' : World) (hb : Below w.heap.size w w') => edits_is (cut wl X.b) bl X.v (.slice q bl.length d) f w' (by rw [← x1]; exact ru_below x2 hb) (ra_below hu hb) (wd_ok hk2) (by omega) (by omega) hbl)
    have hIn : InB (cut wl X.b).length f bl.length := ⟨by omega, by omega, by omega, by rw [hl1]; omega⟩
    rw [decide_eq_true hIn] at CE
    have hT : Hid (∀ L, Tells (cut wl X.b) bl f L → L.length ≤ 4000) := Lib.hid fun L hL => by
      unfold Tells at hL
      rw [if_pos hIn, Int.toNat_natCast] at hL
      rw [hL.len]
      unfold cnt
      split <;> omega
    have CA := Lib.hid (fun (L : List Ed) (v' : Value) (w' : World) (hb : Below w.heap.size w w') (hv : RA edE w' v' L) (hL : L.length ≤ 4000) => apply_is (cut wl X.b) L X.v v' w' (by rw [← x1]; exact ru_below x2 hb) hv (by omega) hL)
    -- what is in the model then
    have FIN : Hid (∀ (W5 wq : World) (uq : Value) (L : List Ed) (xv : Value), Below w.heap.size w W5 → Below W5.heap.size W5 wq → Tells (cut wl X.b) bl f L → RU W5 xv (appF (cut wl X.b) L) → Far W5 D xv → OwnA exE W5.heap.size wq uq (us.take j ++ (⟨X.b, xv, appF (cut wl X.b) L⟩ :: us.drop (j + 1))) →
        ∃ M, WrT wl bl o M ∧ Mo (wq.setCell ⟨g, 1, none⟩ uq) D g (appF wl M) l r ∧ Chg [g] w (wq.setCell ⟨g, 1, none⟩ uq)) := Lib.hid fun W5 wq uq L xv hb5 hbq hL hru hfar ho5 => by
      unfold Tells at hL
      rw [if_pos hIn, Int.toNat_natCast] at hL
      have hM := cut_edits q4 hL (by rw [hSt]; exact hfB)
      obtain ⟨g1, g2, g3⟩ := wrote h.hB h.ok hbm hM (by rw [hSt]; exact hfB)
      have hcw := cut_write q4 q3 q5 h.ok hL hM (by rw [hSt]; exact hfB)
      refine ⟨upE (X.b.a + 1) L, ?_, h.put (below_more hb5 hbq) ho5 hb5.size g1 g2 (appF_length ..) ?_ fun x hx => ?_⟩
      · unfold WrT Tells
        have hIn2 : InB wl.length o bl.length := ⟨by omega, by omega, by omega, by omega⟩
        rw [hr, if_pos rfl, if_pos hIn2, ho, Int.toNat_natCast]
        rw [hAt] at hM
        exact hM
      · have := hU.map
        rw [hsp] at this
        rw [← this]
        simp
      · have old : ∀ x ∈ us, x.b.a ≠ X.b.a → x.ws = cut (appF wl (upE (X.b.a + 1) L)) x.b ∧ RU wq x.v x.ws ∧ Far wq D x.v := fun x hx hne => by
          obtain ⟨y1, y2, y3⟩ := hU.ws x hx
          have hxl : x.b ∈ usd l := by rw [← hU.map]; exact List.mem_map.2 ⟨x, hx, rfl⟩
          exact ⟨by rw [y1]; exact (g3 x.b (usd_mem.1 hxl).1 hne).symm, ru_below y2 (below_more hb5 hbq), y3.grow (below_more hb5 hbq).size⟩
        rcases List.mem_append.1 hx with hx | hx
        · have hxu := List.mem_of_mem_take hx
          refine old x hxu fun eq => ?_
          have := hap3 x.b (List.mem_map.2 ⟨x, hx, rfl⟩) X.b (List.mem_cons_self ..)
          have := usd_in hm (show x.b ∈ usd l by rw [← hU.map]; exact List.mem_map.2 ⟨x, hxu, rfl⟩)
          omega
        · rcases List.mem_cons.1 hx with rfl | hx
          · exact ⟨hcw, ru_below hru hbq, hfar.grow hbq.size⟩
          · have hxu := List.mem_of_mem_drop hx
            refine old x hxu fun eq => ?_
            have := hap4 x.b (List.mem_map.2 ⟨x, hx, rfl⟩)
            omega
    have hD := Lib.hid h.dlt
    have hwfb : X.b.Wf := Bk.wf_of (by omega) (by omega) (by omega) (by omega)
    have CO := Lib.hid (fun w => off_is X.b _ q7 w)
    have hoc : offB X.b.a = (X.b.a + 1) * 8 := q7
    obtain ⟨y, hy⟩ : ∃ y, (X.b.a + 1) * 8 = y := ⟨_, rfl⟩
    rw [hy] at CO q7
    have i3 : IntKind.i64.wrap (o - y) = (f : Int) := by rw [show o - y = (f : Int) by omega]; exact i64_nat _ (by omega)
    obtain ⟨K1, hK1⟩ : ∃ k, j + 1 = k := ⟨_, rfl⟩
    rw [hK1] at FIN
    have CC : Hid (∀ (X' : Ex) (W5 : World), X'.Wf → Below w.heap.size w W5 → Calls Try.prog 85 #[.slice (some ⟨W5.heap.size + 1, 0, none⟩) 3 3]
        ((W5.alloc (.cells (xc X') 84)).alloc (.cells #[.slice (some ⟨b, 0, none⟩) j cap, .slice (some ⟨W5.heap.size, 0, none⟩) 1 1, .slice (if cap = K1 then some ⟨b, 0, none⟩ else some ⟨b, K1 * 4, none⟩) (us.length - K1) (cap - K1)] 75)).drew fun e w' =>
          (∃ u, e = .returned u ∧ OwnA exE W5.heap.size w' u (us.take j ++ (X' :: us.drop K1))) ∧ Below W5.heap.size W5 w') := Lib.hid fun X' W5 hX' hb => by
      have hr := ra_below hR hb
      have h1 := ra_take hr j
      rw [Nat.min_eq_left (by omega)] at h1
      have h2 := ra_cut hr (show K1 ≤ us.length by omega)
      rw [Nat.zero_add] at h2
      change RA exE W5 (.slice (if cap = K1 then some ⟨b, 0, none⟩ else some ⟨b, K1 * 4, none⟩) (us.length - K1) (cap - K1)) (us.drop K1) at h2
      have b1 : Below W5.heap.size W5 (W5.alloc (.cells (xc X') 84)) := bal (Below.refl _ _)
      have h3 := xrows3 (ra_below h1 b1) (ex_one W5 hX').ra (ra_below h2 b1)
      rw [size_alloc] at h3
      have h4 := ras_below h3 ((Below.refl _ _).drew)
      have b2 := (bal (o := .cells #[.slice (some ⟨b, 0, none⟩) j cap, .slice (some ⟨W5.heap.size, 0, none⟩) 1 1, .slice (if cap = K1 then some ⟨b, 0, none⟩ else some ⟨b, K1 * 4, none⟩) (us.length - K1) (cap - K1)] 75) b1).drew
      refine (xconcat_is [us.take j, [X'], us.drop K1] _ _ h4 (by simp) (by
        have := hU.len
        have := usd_len l
        simp only [xlens, List.map_cons, List.map_nil, List.sum_cons, List.sum_nil, List.length_take, List.length_drop, List.length_cons, List.length_nil]
        omega)).mono ?_
      rintro e w' ⟨⟨v, rfl, ho⟩, hb'⟩
      refine ⟨⟨v, rfl, ?_⟩, below_more b2 hb'⟩
      have := ho.mono b2.size
      simpa using this
    have n1 : ((j : Int) == -1) = false := beq_eq_false_iff_ne.2 (by omega)
    have i0 : (0 : Int) ≤ (j : Int) := by omega
    have i1 : (j : Int) < (us.length : Int) := by omega
    have i2 : ¬ (j : Int) < 0 := by omega
    have i4 : (K1 : Int) ≤ (us.length : Int) := by omega
    have i5 : (K1 : Int) ≤ (cap : Int) := by omega
    have i6 : (j : Int) ≤ (cap : Int) := by omega
    have i7 : IntKind.i64.wrap ((j : Int) + 1) = (K1 : Int) := by rw [show (j : Int) + 1 = (K1 : Int) by omega]; exact i64_nat _ (by have := usd_len l; omega)
    have i8 : (j : Int) ≤ (us.length : Int) := by omega
    have hX1 : X.v.oneCell' = true := by rw [hxv]; rfl
    have HWF := Lib.hid hwfb
    clear hW hR hF hU hP h hlen hwl hm hn hj hju hat hmem hbm hbu q3 q4 q5 q6 q7 x1 x2 x3 hlc hl1 hk2 hsp hap3 hap4 hX h1 h2 e hr hA hS hf hAt hSt ho hfB hIn hu hbl hwfb hoc hy hK1
    generalize us.take j = U1 at *
    generalize us.drop K1 = U2 at *
    generalize us.length = N at *
    generalize X.ws.length = T at *
    generalize bl.length = Z at *
    go_enter Try.func69, Try.ntmps69
    go_wp2_with fail
    refine (C.out).mono ?_; rintro e w1 ⟨rfl, b1⟩
    have d1 := c1 w1 b1
    have l1 := hld w1 b1
    obtain ⟨W2, hW2, hst, HW2⟩ := ex_boxed w1 X hX1
    have D2 := Lib.hid (below_more b1 HW2.out.2)
    have e1 : ∀ w', Below W2.heap.size W2 w' → w'.cell? ⟨w1.heap.size, 3, none⟩ = some (.slice px T cx) := fun w' hb => ((HW2.out.1.below hb).c3).trans (by rw [hxv])
    have e2 : ∀ w', Below W2.heap.size W2 w' → (blkLoad (.pointer (some ⟨w1.heap.size, 0, none⟩))).run Try.prog w' = .ok (.agg (bc X.b)) w' := fun w' hb => (HW2.out.1.below hb).block
    rw [hxv] at CE CA
    clear C hld
    go_wp2_with fail
    go_region_held3 (fun w' => Below W2.heap.size W2 w')
      (first | assumption | exact (Below.refl _ _).drew | exact below_more ‹Below W2.heap.size W2 _› hbq | exact below_more ‹Below W2.heap.size W2 _› hby)
      (first
        | (go_at_call 49; refine (CO.out _).mono ?_; rintro e wq ⟨rfl, hbq⟩)
        | (go_at_call 87; refine (CE.out _ (below_more D2.out (by assumption))).mono ?_; rintro e wy ⟨⟨ue, L, rfl, oe, te⟩, hby⟩
           have OE := Lib.hid (And.intro oe.ra te)
           clear oe te))
    have HH := Lib.hid ‹Below W2.heap.size W2 wy›
    have e3 := e1 wy HH.out
    clear e1 e2
    go_wp2_with fail
    refine (CA.out L _ _ (below_more D2.out HH.out) OE.out.1 (hT.out L OE.out.2)).mono ?_; rintro e w4 ⟨⟨uv4, rfl, o4⟩, b4⟩
    have X4 := HW2.out.1.below (below_more HH.out b4)
    obtain ⟨WS, hWS⟩ : ∃ WS, appF (cut wl X.b) L = WS := ⟨_, rfl⟩
    obtain ⟨W5, hW5⟩ : ∃ W5, w4.setCell ⟨w1.heap.size, 3, none⟩ uv4 = W5 := ⟨_, rfl⟩
    have HF : Hid (Xv W5 w1.heap.size ⟨X.b, uv4, WS⟩ ∧ Below w.heap.size w W5 ∧ (⟨X.b, uv4, WS⟩ : Ex).Wf ∧ ∀ (wq : World) (uq : Value), Below W5.heap.size W5 wq → OwnA exE W5.heap.size wq uq (U1 ++ (⟨X.b, uv4, WS⟩ :: U2)) → ∃ M, WrT wl bl o M ∧ Mo (wq.setCell ⟨g, 1, none⟩ uq) D g (appF wl M) l r ∧ Chg [g] w (wq.setCell ⟨g, 1, none⟩ uq)) := Lib.hid (by
      have k1 : w1.heap.size < wy.heap.size := Nat.lt_of_lt_of_le HW2.out.1.lt HH.out.size
      have hc : Chg [w1.heap.size] w4 W5 := by rw [← hW5]; exact (Chg.refl [w1.heap.size] w4).setCell (p := ⟨w1.heap.size, 3, none⟩) (.inl (List.mem_singleton.2 rfl)) _
      have hb4 : Below w.heap.size w w4 := below_more D2.out (below_more HH.out b4)
      have hb5 : Below w.heap.size w W5 := hc.below hb4 hb4.size (fun k hk => by rw [List.mem_singleton.1 hk]; exact b1.size)
      have hX5 : Xv W5 w1.heap.size ⟨X.b, uv4, WS⟩ := by
        rw [← hW5]
        exact Whole.set_ X4 3 uv4
      refine ⟨hX5, hb5, ⟨HWF.out, by obtain ⟨_, _, rfl⟩ := o4.shape; rfl⟩, fun wq uq hbq ho => ?_⟩
      have hru : RU W5 uv4 WS := by
        rw [← hWS]
        refine ru_chg o4.ru hc fun k hk q => ?_
        have := (World.ownsRow.lt o4 k hk).1
        rw [List.mem_singleton.1 q] at this
        omega
      have hfar : Far W5 D uv4 := (far_own_u o4 fun k hk => by
        have := hD.out k hk
        have := (below_more D2.out HH.out).size
        omega).grow hc.size
      refine FIN.out W5 wq uq L uv4 hb5 hbq OE.out.2 (by rw [hWS]; exact hru) hfar ?_
      rw [hWS]
      exact ho)
    have e4 := X4.c3
    rw [hxv] at e4
    have f4 := Whole.free X4 3
    rw [hWS] at o4
    obtain ⟨pv, cv, rfl⟩ := o4.shape
    obtain ⟨nv, hnv⟩ : ∃ nv, WS.length = nv := ⟨_, rfl⟩
    rw [hnv] at hW5 HF ⊢
    have C5 := Lib.hid (CC.out _ W5 HF.out.2.2.1 HF.out.2.1)
    have d5 := c1 W5.drew HF.out.2.1.drew
    obtain ⟨X', hX'⟩ : ∃ X' : Ex, (⟨X.b, .slice pv nv cv, WS⟩ : Ex) = X' := ⟨_, rfl⟩
    have hsl : ∀ w', (exSlice 1 #[(0, .agg (xc X'))]).run Try.prog w' = .ok (.slice (some ⟨w'.heap.size, 0, none⟩) 1 1) (w'.alloc (.cells (xc X') 84)) := fun w' => run_exSlice1 w' X' (by rw [← hX'])
    rw [hX'] at C5 HF
    have d6 := c1 (W5.alloc (.cells (xc X') 84)).drew (bal HF.out.2.1).drew
    have l5 : (exLoad (.pointer (some ⟨w1.heap.size, 0, none⟩))).run Try.prog W5.drew = .ok (.agg (xc X')) W5.drew := Xv.load (w := W5.drew) HF.out.1
    have FC := Lib.hid c1
    have FF := Lib.hid f1
    clear X4 o4 CC FIN CE CA CO hWS hnv hX' c1 f1 hT HWF b4 e3 d1 l1 hxv b1 hD
    obtain ⟨U, hU⟩ : ∃ U, U1 ++ (X' :: U2) = U := ⟨_, rfl⟩
    rw [hU] at C5 HF
    clear hU
    go_wp2_with fail
    go_region_law (first
        | (go_simp; go_at_call 85; refine (C5.out).mono ?_; rintro e wq ⟨⟨uq, rfl, oq⟩, bq⟩
           have FQ := Lib.hid (HF.out.2.2.2 wq uq bq oq)
           have f2 := FF.out wq (below_more HF.out.2.1 bq)
           have c2 := FC.out wq (below_more HF.out.2.1 bq)
           obtain ⟨pq, cq, rfl, _, _⟩ := ra_shape oq.ra
           clear oq))
    all_goals
      go_wp2
      all_goals
        go_ret
        exact ⟨rfl, FQ.out⟩
end Go.Proofs.Ytkpefnjohdjejaa
