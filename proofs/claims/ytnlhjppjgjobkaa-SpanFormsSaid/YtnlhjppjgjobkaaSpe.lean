/-
  Contract: the edits that write bytes (package span).
-/
import Derived.Test.YtnlhjppjgjobkaaSpr
import Derived.Test.YtnlhjppjgjobkaaEde
import Derived.Deep.RegionHeld3
import Derived.Lib.Hide
namespace Go.Proofs.Ytnlhjppjgjobkaa
set_option maxRecDepth 100000
open Go.RowKit

theorem by_at {l : List Int} (h : ∀ x ∈ l, By x) {k : Nat} (hk : k < l.length) : By (l.getD k 0) := by
  rw [List.getD_eq_getElem?_getD, List.getElem?_eq_getElem hk]; exact h _ (List.getElem_mem hk)
theorem mid_bytes {w : World} {b off n c : Nat} {l : List Int} (h : RA byE w (.slice (some ⟨b, off, none⟩) n c) l) {d e : Nat} (h1 : d < e) (h2 : e ≤ l.length) : RA byE w (.slice (some ⟨b, off + d, none⟩) (e - d) (c - d)) ((l.take e).drop d) := by
  have a := ra_take h e
  rw [Nat.min_eq_left h2] at a
  have b := ra_drop a (k := d) (by rw [List.length_take]; omega)
  simpa [byE] using b
theorem mid_length {l : List Int} {d e : Nat} (h2 : e ≤ l.length) : ((l.take e).drop d).length = e - d := by rw [List.length_drop, List.length_take]; omega
theorem mid_getD {l : List Int} {d e k : Nat} (h : d + k < e) : ((l.take e).drop d).getD k 0 = l.getD (d + k) 0 := by
  rw [List.getD_eq_getElem?_getD, List.getElem?_drop, List.getElem?_take, if_pos h, List.getD_eq_getElem?_getD]
theorem mid_by {l : List Int} (h : ∀ x ∈ l, By x) (d e : Nat) : ∀ x ∈ (l.take e).drop d, By x := fun x hx => h x (List.mem_of_mem_take (List.mem_of_mem_drop hx))
theorem IsE.word {w bl : List Int} {o D N : Nat} {L : List Ed} (h : IsE w o D (fun k => bl.getD k 0) L) (h0 : D = 0 ∨ (o + D) % 8 = 0) (h1 : 1 ≤ N) (h2 : (o + D) % 8 + N ≤ 8) (hb : ∀ x ∈ bl, By x) (hD : D + N ≤ bl.length) (hw : Wd (w.getD ((o + D) / 8) 0)) :
    Wd (puB (w.getD ((o + D) / 8) 0) ((o + D) % 8) ((bl.take (D + N)).drop D)) ∧ IsE w o (D + N) (fun k => bl.getD k 0) (L ++ [⟨(((o + D) / 8 : Nat) : Int), puB (w.getD ((o + D) / 8) 0) ((o + D) % 8) ((bl.take (D + N)).drop D)⟩]) := by
  have hl := mid_length (l := bl) (d := D) hD
  have hwd := puB_wd ((bl.take (D + N)).drop D) (w.getD ((o + D) / 8) 0) ((o + D) % 8) hw (mid_by hb _ _) (by rw [hl]; omega)
  refine ⟨hwd, h.more h0 h1 h2 hwd fun j hj => ?_⟩
  rw [bt_puB _ _ _ _ (mid_by hb _ _), hl]
  by_cases hin : (o + D) % 8 ≤ j ∧ j < (o + D) % 8 + N
  · rw [if_pos (by omega), if_pos hin, mid_getD (by omega)]
    congr 1; omega
  · rw [if_neg (by omega), if_neg hin]
theorem put_b {v : Value} {l : List Int} {w : World} (x : Int) (f : Nat) (hx : Wd x) (hv : RA byE w v l) (hf : f + l.length ≤ 8) : Calls Try.prog 27 #[.int .u64 x, .int .i64 f, v] w fun e w' => e = .returned (.int .u64 (puB x f l)) ∧ Below w.heap.size w w' :=
  (put_is x f hx hv hf).mono fun e w' ⟨h1, n, h2⟩ => ⟨h1, by subst h2; exact below_drewN (Below.refl _ _) n⟩
/-- edits being gathered, part by part -/
structure Eb (wl bl : List Int) (o : Nat) (w1 wr : World) (lv : Value) (k a m : Nat) : Prop where
  sum : a + m = o + bl.length
  ge : o ≤ a
  al : a = o ∨ a % 8 = 0 ∨ m = 0
  rest : (pcs o bl.length).drop k = pcs a m
  own : ∃ L, OwnA edE w1.heap.size wr lv L ∧ IsE wl o (a - o) (fun k => bl.getD k 0) L ∧ L.length ≤ a - o
  below : Below w1.heap.size w1 wr
set_option maxHeartbeats 2000000 in
theorem edits_yes (wl bl : List Int) (v u : Value) (o : Nat) (w : World) (hv : RU w v wl) (hu : RA byE w u bl) (hw : ∀ x ∈ wl, Wd x) (hL : wl.length ≤ 1000) (hn : bl.length ≤ 448) (hon : o + bl.length ≤ 8 * wl.length) :
    Calls Try.prog 13 #[v, .int .i64 o, u] w fun e w' => (∃ x L, e = .returned (.tuple #[x, .bool true]) ∧ OwnA edE w.heap.size w' x L ∧ IsE wl o bl.length (fun k => bl.getD k 0) L) ∧ Below w.heap.size w w' := by
  obtain ⟨p, cap, rfl, _, _, _⟩ := id hv
  obtain ⟨pu, cu, rfl, hlc, hcm⟩ := ra_shape hu
  have C := Lib.hid (within_yes o bl.length wl.length cap p hn hon hL w)
  have D := Lib.hid (parts_is o bl.length (by omega) hn w)
  have HV := Lib.hid (fun (w' : World) (hb : Below w.heap.size w w') => ru_below hv hb)
  have HU := Lib.hid (fun (w' : World) (hb : Below w.heap.size w w') => ra_below hu hb)
  have HW := Lib.hid hw
  have HY := Lib.hid (show ∀ x ∈ bl, By x from ra_ok hu)
  have HL := Lib.hid (And.intro hL (And.intro hn hon))
  have HC := Lib.hid (And.intro hlc hcm)
  clear hv hw hL hn hon hu hlc hcm
  obtain ⟨Lw, hLw⟩ : ∃ Lw, wl.length = Lw := ⟨_, rfl⟩
  rw [hLw] at C HV ⊢
  have HLw := Lib.hid hLw
  clear hLw
  obtain ⟨n, hn⟩ : ∃ n, bl.length = n := ⟨_, rfl⟩
  rw [hn] at C D HU ⊢
  have HNn := Lib.hid hn
  clear hn
  go_enter Try.func13, Try.ntmps13
  go_wp2_with fail
  refine (C.out).mono ?_; rintro e w' ⟨rfl, rfl⟩
  go_wp2_with fail
  refine (D.out).mono ?_; rintro e w1 ⟨⟨u1, rfl, o1⟩, b1⟩
  have D1 := Lib.hid b1
  have O1 := Lib.hid o1
  obtain ⟨g, d, rfl, _, _⟩ := o1.shape
  have hpl := pcs_length n o
  have HP : Hid ((pcs o n).length ≤ 1000) := Lib.hid (by rw [hpl]; have := HL.out; have := HNn.out; unfold cnt; split <;> omega)
  clear b1 D o1 hpl C
  obtain ⟨P, hP⟩ : ∃ P, pcs o n = P := ⟨_, rfl⟩
  rw [hP] at O1 HP ⊢
  have HPe := Lib.hid hP
  clear hP
  go_wp2
  go_loopw [8, 9, 23] (fun y x i wr => ∃ (k a m : Nat) (lv : Value), k ≤ P.length ∧ i = .int .i64 k ∧ x = .int .i64 ((a - o : Nat) : Int) ∧ lv = y ∧ Hid (Eb wl bl o w1 wr lv k a m)) (fun _ _ i _ => P.length - (intOf i).toNat)
  case atStart => exact ⟨0, o, n, _, Nat.zero_le _, rfl, by simp, rfl, Lib.hid ⟨by rw [HNn.out], Nat.le_refl _, .inl rfl, by rw [HNn.out]; rfl, ⟨[], own_nil_a _ _ _, by rw [Nat.sub_self]; exact IsE.none _ _ _, Nat.zero_le _⟩, Below.refl _ _⟩⟩
  case round =>
    obtain ⟨k, a, m, lv, hk, rfl, rfl, rfl, H⟩ := hrel
    by_cases hlt : k < P.length
    · have hst := pcs_step H.out.rest (by rw [HNn.out, HPe.out]; exact hlt)
      rw [HNn.out, HPe.out] at hst
      obtain ⟨hm0, hg1, hdr⟩ := hst
      obtain ⟨k1, k2, k3, k4⟩ := pcK_le (a := a) hm0
      obtain ⟨b, off, e, hb, hx⟩ := pc_at (ra_below O1.out.ra H.out.below) (by omega)
      cases e
      obtain ⟨hld, _, _, _⟩ := hx k hlt
      rw [hg1] at hld
      obtain ⟨Dn, hDn⟩ : ∃ Dn, a - o = Dn := ⟨_, rfl⟩
      have hsum := H.out.sum
      rw [HNn.out] at hsum
      have hge := H.out.ge
      obtain ⟨hL1, hL2, hL3⟩ := HL.out
      rw [HNn.out] at hL2 hL3
      obtain ⟨L, OL, EL, hLl⟩ := H.out.own
      rw [hDn] at EL hLl
      have hoD : o + Dn = a := by omega
      have hQL : a / 8 < wl.length := by omega
      have EW := EL.word (N := pcK a m) (by rcases H.out.al with h | h | h; exact .inl (by omega); exact .inr (by rw [hoD]; exact h); exact absurd h hm0) k1 (by rw [hoD]; exact k3) HY.out (by rw [HNn.out]; omega) (by rw [hoD]; exact wd_at HW.out hQL)
      rw [hoD] at EW
      obtain ⟨bb, of, e, _, hc⟩ := ru_some (HV.out _ (below_more D1.out H.out.below)) (by rw [HLw.out]; have := HLw.out; omega)
      cases e
      obtain ⟨b2, f2, e, _, _⟩ := byte_at (HU.out w (Below.refl _ _)) (by rw [HNn.out]; omega)
      cases e
      obtain ⟨N, hN⟩ : ∃ N, pcK a m = N := ⟨_, rfl⟩
      rw [hN] at hld k1 k2 k3 hdr EW k4
      obtain ⟨E, hE⟩ : ∃ E, Dn + N = E := ⟨_, rfl⟩
      rw [hE] at EW
      have HM := Lib.hid (fun (w' : World) (hb : Below w.heap.size w w') => mid_bytes (HU.out w' hb) (d := Dn) (e := E) (by omega) (by rw [HNn.out]; omega))
      have hwz := wd_at HW.out hQL
      have hcell := hc (a / 8) hQL
      have HPut := Lib.hid (fun (w' : World) (hb : Below w.heap.size w w') => put_b (wl.getD (a / 8) 0) (a % 8) hwz (HM.out w' hb) (by rw [mid_length (by rw [HNn.out]; omega)]; omega))
      obtain ⟨Q, hQ⟩ : ∃ Q, a / 8 = Q := ⟨_, rfl⟩
      obtain ⟨F, hF⟩ : ∃ F, a % 8 = F := ⟨_, rfl⟩
      rw [hQ] at hld hcell HPut EW
      rw [hF] at hld HPut EW
      obtain ⟨Y, hY⟩ : ∃ Y, puB (wl.getD Q 0) F ((bl.take E).drop Dn) = Y := ⟨_, rfl⟩
      rw [hY] at EW HPut
      obtain ⟨z, hz⟩ : ∃ z, wl.getD Q 0 = z := ⟨_, rfl⟩
      rw [hz] at HPut hcell
      obtain ⟨wo, hwo⟩ : ∃ wo, wo = wr := ⟨_, rfl⟩
      subst hwo
      obtain ⟨W, hW, HWp⟩ := pc_boxed wo ⟨Q, F, N⟩
      have c0 : W.cell? ⟨wo.heap.size, 0, none⟩ = some (.int .i64 Q) := HWp.out.1.c0
      have c1 : W.cell? ⟨wo.heap.size, 1, none⟩ = some (.int .i64 F) := HWp.out.1.c1
      have c2 : W.cell? ⟨wo.heap.size, 2, none⟩ = some (.int .i64 N) := HWp.out.1.c2
      have hBW := below_more H.out.below HWp.out.2
      have hcz : ∀ x, Below w.heap.size w x → x.cell? ⟨bb, of + Q, none⟩ = some (.int .u64 z) := fun x hx => by
        obtain ⟨_, _, e, _, hc2⟩ := ru_some (HV.out _ hx) (by rw [HLw.out]; have := HLw.out; omega)
        cases e
        rw [← hz]; exact hc2 Q (by omega)
      have i0 : (0 : Int) ≤ (k : Int) := by omega
      have i1 : (k : Int) < (P.length : Int) := by omega
      have i2 : ¬ (k : Int) < 0 := by omega
      have i3 : IntKind.i64.wrap ((k : Int) + 1) = ((k + 1 : Nat) : Int) := by rw [show (k : Int) + 1 = ((k + 1 : Nat) : Int) by omega]; exact i64_nat _ (by have := HP.out; omega)
      have i4 : IntKind.i64.wrap ((Dn : Int) + (N : Int)) = (E : Int) := by rw [show (Dn : Int) + (N : Int) = (E : Int) by omega]; exact i64_nat _ (by omega)
      have q0 : (0 : Int) ≤ (Q : Int) := by omega
      have q1 : (Q : Int) < (Lw : Int) := by have := HLw.out; omega
      have q2 : ¬ (Q : Int) < 0 := by omega
      have hcc := HC.out
      rw [HNn.out] at hcc
      have s1 : (Dn : Int) ≤ (E : Int) := by omega
      have s2 : (E : Int) ≤ (n : Int) := by omega
      have s3 : (Dn : Int) ≤ (cu : Int) := by omega
      have s4 : (E : Int) ≤ (cu : Int) := by omega
      have s5 : ¬ cu = 0 := by omega
      have s6 : ¬ cu = Dn := by omega
      have HB := Lib.hid hBW
      have HO := Lib.hid (OL.below HWp.out.2)
      have HPv := Lib.hid HWp.out.1
      have HE := Lib.hid EW
      have HA := Lib.hid (And.intro hge (And.intro hsum (And.intro k1 (And.intro k2 (And.intro hDn (And.intro hE (And.intro hLl (And.intro hL2 k4))))))))
      have HD := Lib.hid hdr
      have HK := Lib.hid hlt
      have hlen : Hid (L.length + [(⟨(Q : Int), Y⟩ : Ed)].length ≤ 4000) := Lib.hid (by simp only [List.length_singleton]; omega)
      have HNe : Hid (lv.ownBlock ≠ some wo.heap.size) := Lib.hid fun e => by have := OL.lt _ e; omega
      have HWf : Hid (Ed.Wf ⟨(Q : Int), Y⟩) := Lib.hid (Ed.wf_of (by simp only; omega) (by simp only; omega) EW.1.1 (by have := EW.1.2; simp only; omega))
      rw [hDn]
      clear hx hb hQ hF hN hge hsum hL1 hL2 hL3 hlt hk hm0 hg1 hdr k1 k2 k3 hE HWp H EW hY hz hcell hwz hBW hcc OL EL hLl hoD hDn hQL hc
      have DD := Lib.hid ((below_more D1.out HB.out).drew)
      have CZ : Hid (∀ x, Below w.heap.size w x → x.cell? ⟨bb, of + Q, none⟩ = some (.int .u64 z)) := Lib.hid hcz
      have SF : Hid (∀ x, Below W.heap.size W x → x.cell? ⟨wo.heap.size, 0, none⟩ = some (.int .i64 Q) ∧ x.cell? ⟨wo.heap.size, 1, none⟩ = some (.int .i64 F) ∧ x.cell? ⟨wo.heap.size, 2, none⟩ = some (.int .i64 N) ∧ x.cell? ⟨bb, of + Q, none⟩ = some (.int .u64 z)) := Lib.hid fun x hx => ⟨(HPv.out.below hx).c0, (HPv.out.below hx).c1, (HPv.out.below hx).c2, CZ.out x (below_more D1.out (below_more HB.out hx))⟩
      clear hcz
      go_wp2_with fail
      go_region_held3 (fun x => x.cell? ⟨wo.heap.size, 0, none⟩ = some (.int .i64 Q) ∧ x.cell? ⟨wo.heap.size, 1, none⟩ = some (.int .i64 F) ∧ x.cell? ⟨wo.heap.size, 2, none⟩ = some (.int .i64 N) ∧ x.cell? ⟨bb, of + Q, none⟩ = some (.int .u64 z))
        (first
          | exact SG.out
          | exact SF.out _ (Below.refl _ _).drew
          | exact SF.out _ BQ.out
          | exact SF.out _ (bal BQ.out))
        (first
        | (refine step_ed (o := ⟨some 47, _, _, _, _, _⟩) rfl (.tmp 27) (.tmp 46) rfl w1.heap.size _ L (by simp [Act.eval]) OQ.out (.slice (some ⟨wq.heap.size, 0, none⟩) 1 1) [⟨(Q : Int), Y⟩] (by simp [Act.eval]) RQ.out hlen.out BW.out.size ?_
           intro vb wb ob gb _
           have OB := Lib.hid ob
           have GB := Lib.hid (below_app BW.out BW.out.size OQ.out gb)
           have VB : Hid (Pv wb wo.heap.size ⟨Q, F, N⟩) := Lib.hid ((gb.block _ VQ.out.lt (fun e => HNe.out e.symm)).trans VQ.out)
           have SG := Lib.hid (And.intro VB.out.c0 (And.intro VB.out.c1 (And.intro VB.out.c2 (CZ.out _ (below_more D1.out GB.out)))))
           clear ob gb)
        | (go_at_call 27; refine (HPut.out _ DD.out).mono ?_; rintro e wq ⟨rfl, bq⟩
           have BQ := Lib.hid (show Below W.heap.size W wq from ((Below.refl _ _).drew).trans bq)
           have OQ := Lib.hid (HO.out.below (bal (o := .cells (ec ⟨(Q : Int), Y⟩) 43) BQ.out))
           have RQ := Lib.hid (ed_one wq HWf.out).ra
           have BW := Lib.hid (below_more HB.out (bal (o := .cells (ec ⟨(Q : Int), Y⟩) 43) BQ.out))
           have VQ := Lib.hid (HPv.out.below (bal (o := .cells (ec ⟨(Q : Int), Y⟩) 43) BQ.out))
           clear bq))
      have d2 : wb.cell? ⟨wo.heap.size, 2, none⟩ = some (.int .i64 N) := VB.out.c2
      have HN : Hid (Eb wl bl o w1 wb vb (k + 1) (a + N) (m - N) ∧ E = a + N - o) := Lib.hid (by
        obtain ⟨g1, g2, g3, g4, g5, g6, g7, g8, g9⟩ := HA.out
        refine ⟨⟨by rw [HNn.out]; omega, by omega, by rcases g9 with g9 | g9; exact .inr (.inr (by omega)); exact .inr (.inl g9), by rw [HNn.out, HPe.out]; exact HD.out, ⟨_, OB.out, ?_, by rw [List.length_append, List.length_singleton]; omega⟩, GB.out⟩, by omega⟩
        have := HE.out.2
        rw [show a + N - o = E by omega]
        exact this)
      go_wp2
      exact ⟨⟨k + 1, a + N, m - N, _, by have := HK.out; omega, by go_num, by rw [HN.out.2], rfl, HN.out.1 |> Lib.hid⟩, by have := HK.out; simp [intOf]; omega⟩
    · obtain rfl : k = P.length := by omega
      have h0 := H.out.rest
      have hm : m = 0 := by
        rw [HNn.out, HPe.out, List.drop_length] at h0
        rcases Nat.eq_zero_or_pos m with h | h
        · exact h
        · rw [pcs_more (by omega)] at h0; cases h0
      subst hm
      have ha : a - o = n := by have := H.out.sum; rw [HNn.out] at this; omega
      have HR := Lib.hid (And.intro H.out.own H.out.below)
      rw [ha] at HR ⊢
      clear h0 ha H
      go_wp2
      go_ret2
      obtain ⟨⟨L, r1, r2, _⟩, r3⟩ := HR.out
      exact ⟨⟨_, L, rfl, r1.mono D1.out.size, r2⟩, below_more D1.out r3⟩
theorem edits_no (o : Int) (bn L c d : Nat) (p q : Option Addr) (_ : -9223372036854775808 ≤ o ∧ o ≤ 9223372036854775807) (h : ¬ InB L o bn) (hL : L ≤ 1000) (hbn : bn ≤ 100000) (w : World) :
    Calls Try.prog 13 #[.slice p L c, .int .i64 o, .slice q bn d] w fun e w' => e = .returned (.tuple #[.slice none 0 0, .bool false]) ∧ w = w' := by
  have C := Lib.hid (within_no o bn L c p (by omega) h hL w)
  clear h hL hbn
  go_enter Try.func13, Try.ntmps13
  go_wp2_with fail
  refine (C.out).mono ?_; rintro e w' ⟨rfl, rfl⟩
  go_wp2_with fail
  go_ret2
  exact ⟨rfl, rfl⟩
end Go.Proofs.Ytnlhjppjgjobkaa
