/-
  Contracts of the reference's model: a block is taken, given back, the root, a copy.
-/
import Derived.Test.YtkpefnjohdjejaaMrf
namespace Go.Proofs.Ytkpefnjohdjejaa
set_option maxRecDepth 100000
open Go.ChangeShapes Go.WideShapes Go.ChangeAt Go.RowKit

theorem rmfree_is {D : List Nat} {g : Nat} {wl : List Int} {l : List Bk} {r : Int} (o : Int) (w : World) (h : Rm w D g wl l r) : Calls Try.prog 32 #[.pointer (some ⟨g, 0, none⟩), .int .i64 o] w fun e w' =>
    e = .returned (.int .i64 (feQ l o r)) ∧ Rm w' D g (feW wl l o r) (feB l o r) r ∧ Chg [g] w w' := by
  obtain ⟨_, hwl, _⟩ := h.len
  obtain ⟨v, hW, hv, _⟩ := h.rows
  have T := Lib.hid (rfr_is wl o v w hv (by omega) h.ok)
  have c0 : ∀ w', Below w.heap.size w w' → w'.cell? ⟨g, 0, none⟩ = some v := fun w' hb => by rw [hb.cell (p := ⟨g, 0, none⟩) hW.lt, Whole.at_ hW]; rfl
  have c1 : ∀ w', Below w.heap.size w w' → w'.cell? ⟨g, 1, none⟩ = some (.int .i64 r) := fun w' hb => by rw [hb.cell (p := ⟨g, 1, none⟩) hW.lt, Whole.at_ hW]; rfl
  have f0 : ∀ w', Below w.heap.size w w' → w'.frozen? ⟨g, 0, none⟩ = false := fun w' hb => Whole.free ((hb.block g hW.lt).trans hW) 0
  have d0 := c0 w (Below.refl _ _)
  have STAY := Lib.hid (fun w' (hb : Below w.heap.size w w') => And.intro (h.below hb) (Chg.of_below hb [g]))
  cases e : isN o l with
  | none =>
    have e1 : feQ l o r = 1 := by rw [feQ, e]
    have e2 : feW wl l o r = wl := by rw [feW, e]
    have e3 : feB l o r = l := by rw [feB, e]
    rw [e1, e2, e3]
    rw [frR_none h.hB e] at T
    simp only at T
    clear hW hv h e e1 e2 e3 hwl
    go_enter Try.func32, Try.ntmps32
    go_wp2_with fail
    refine (T.out).mono ?_; rintro e w1 ⟨⟨x, rfl, ox⟩, b1⟩
    have F0 := Lib.hid (STAY.out w1 b1)
    clear b1 STAY ox
    go_wp2_with fail
    go_ret
    exact ⟨rfl, F0.out⟩
  | some k =>
    rw [frR_some h.hB e] at T
    simp only at T
    have hcm := isN_can h.hB e
    obtain ⟨g1, g2, g3, _⟩ := given h.hB h.ok hcm
    have CA := Lib.hid (fun (v' : Value) (w' : World) (hb : Below w.heap.size w w') (hv' : RA edE w' v' [medF l k]) => rapply_any wl [medF l k] v v' w' (ru_below hv hb) hv' (by omega) (by simp))
    have FIN := Lib.hid (fun wq uq (hb : Below w.heap.size w wq) (B : Nat) (ho : OwnU B wq uq (appF wl [medF l k])) (hB : w.heap.size ≤ B) => h.put hb ho hB g1 g3)
    by_cases hr : o = r
    · have e1 : feQ l o r = 5 := by rw [feQ, e]; exact if_pos hr
      have e2 : feW wl l o r = wl := by rw [feW, e]; exact if_pos hr
      have e3 : feB l o r = l := by rw [feB, e]; exact if_pos hr
      rw [e1, e2, e3]
      have n2 : (r == o) = true := by rw [hr]; simp
      clear hW hv h e e1 e2 e3 hwl hr g1 g2 g3 hcm FIN CA
      generalize medF l k = m at *
      go_enter Try.func32, Try.ntmps32
      go_wp2_with fail
      refine (T.out).mono ?_; rintro e w1 ⟨⟨x, rfl, ox⟩, b1⟩
      have F0 := Lib.hid (STAY.out w1 b1)
      have d1 := c1 w1 b1
      clear b1 STAY ox c0 c1
      go_wp2_with fail
      go_ret
      exact ⟨rfl, F0.out⟩
    · have e1 : feQ l o r = 0 := by rw [feQ, e]; exact if_neg hr
      have e2 : feW wl l o r = appF wl [medF l k] := by rw [feW, e]; exact if_neg hr
      have e3 : feB l o r = mrgF l k := by rw [feB, e]; exact if_neg hr
      rw [e1, e2, e3]
      have n2 : (r == o) = false := beq_eq_false_iff_ne.2 (fun q => hr q.symm)
      clear hW hv h e e1 e2 e3 hwl hr g1 g2 g3 hcm STAY
      generalize appF wl [medF l k] = wl' at *
      generalize medF l k = m at *
      generalize mrgF l k = l' at *
      go_enter Try.func32, Try.ntmps32
      go_wp2_with fail
      refine (T.out).mono ?_; rintro e w1 ⟨⟨x, rfl, ox⟩, b1⟩
      have D1 := Lib.hid b1
      have d1 := c1 w1 b1
      have d2 := c0 w1 b1
      have C3 := Lib.hid (CA.out x w1 b1 ox.ra)
      clear b1 ox
      go_wp2_with fail
      refine (C3.out).mono ?_; rintro e w2 ⟨⟨y, rfl, oy⟩, b2⟩
      have B2 := Lib.hid (below_more D1.out b2)
      have FQ := Lib.hid (FIN.out w2 y B2.out _ oy D1.out.size)
      have f2 := f0 w2 B2.out
      have d3 := c0 w2 B2.out
      obtain ⟨pq, cq, rfl⟩ := oy.shape
      clear oy b2
      go_wp2_with fail
      go_ret
      exact ⟨rfl, FQ.out⟩

theorem rmsetr_is {D : List Nat} {g : Nat} {wl : List Int} {l : List Bk} {r : Int} (o : Int) (w : World) (h : Rm w D g wl l r) : Calls Try.prog 34 #[.pointer (some ⟨g, 0, none⟩), .int .i64 o] w fun e w' =>
    e = .returned (.int .i64 (srQ l o)) ∧ Rm w' D g wl l (if srQ l o = 0 then o else r) ∧ Chg [g] w w' := by
  have C := Lib.hid (rmblk_is w h)
  have CI := Lib.hid (fun v w' (hv : RA blkE w' v l) => ris_is o l v (isN o l) w' hv rfl)
  have FIN := Lib.hid (fun w' (hb : Below w.heap.size w w') => h.root hb o)
  have HN := Lib.hid (fun w' (hb : Below w.heap.size w w') => And.intro (h.below hb) (Chg.of_below hb [g]))
  obtain ⟨v, hW, _⟩ := h.rows
  have c2 : ∀ w', Below w.heap.size w w' → w'.cell? ⟨g, 1, none⟩ = some (.int .i64 r) := fun w' hb => by rw [hb.cell (p := ⟨g, 1, none⟩) hW.lt, Whole.at_ hW]; rfl
  have f2 : ∀ w', Below w.heap.size w w' → w'.frozen? ⟨g, 1, none⟩ = false := fun w' hb => Whole.free ((hb.block g hW.lt).trans hW) 1
  clear h hW
  by_cases h0 : o = 0
  · subst h0
    have e0 : srQ l 0 = 0 := if_neg (fun q => q.1 rfl)
    rw [e0, if_pos rfl]
    have d2 := c2 w (Below.refl _ _)
    have g2 := f2 w (Below.refl _ _)
    have F0 := Lib.hid (FIN.out w (Below.refl _ _))
    clear c2 f2 C HN FIN e0
    go_enter Try.func34, Try.ntmps34
    go_wp2_with fail
    go_ret
    exact ⟨rfl, F0.out⟩
  · have n0 : (o != 0) = true := by simpa using h0
    cases e : isN o l with
    | none =>
      have e0 : srQ l o = 1 := if_pos ⟨h0, e⟩
      rw [e0, if_neg (by decide)]
      rw [e] at CI
      simp only [oi] at CI
      clear c2 f2 FIN e0 h0 e
      go_enter Try.func34, Try.ntmps34
      go_wp2_with fail
      refine (C.out).mono ?_; rintro e w1 ⟨⟨v1, rfl, o1⟩, b1⟩
      have D1 := Lib.hid b1
      have O1 := Lib.hid o1.ra
      clear b1 o1
      go_wp2_with fail
      refine (CI.out _ _ O1.out).mono ?_; rintro e w2 ⟨rfl, b2⟩
      have F0 := Lib.hid (HN.out w2 (below_more D1.out b2))
      clear b2 HN C
      go_wp2_with fail
      go_ret
      exact ⟨rfl, F0.out⟩
    | some k =>
      have e0 : srQ l o = 0 := if_neg (fun q => by rw [e] at q; cases q.2)
      rw [e0, if_pos rfl]
      rw [e] at CI
      simp only [oi] at CI
      have n1 : ¬ (k : Int) < 0 := by omega
      clear e0 h0 e HN
      go_enter Try.func34, Try.ntmps34
      go_wp2_with fail
      refine (C.out).mono ?_; rintro e w1 ⟨⟨v1, rfl, o1⟩, b1⟩
      have D1 := Lib.hid b1
      have O1 := Lib.hid o1.ra
      clear b1 o1
      go_wp2_with fail
      refine (CI.out _ _ O1.out).mono ?_; rintro e w2 ⟨rfl, b2⟩
      have B2 := Lib.hid (below_more D1.out b2)
      have F0 := Lib.hid (FIN.out w2 B2.out)
      have d2 := c2 w2 B2.out
      have g2 := f2 w2 B2.out
      clear b2 FIN C c2 f2
      go_wp2_with fail
      go_ret
      exact ⟨rfl, F0.out⟩

set_option maxHeartbeats 2000000 in
theorem rmalloc_is {D : List Nat} {g : Nat} {wl : List Int} {l : List Bk} {r : Int} (n o : Int) (w : World) (h : Rm w D g wl l r) :
    Calls Try.prog 31 #[.pointer (some ⟨g, 0, none⟩), .int .i64 n, .int .i64 o] w fun e w' => e = .returned (.bool (alQ (needN n) l o).isSome) ∧ Rm w' D g (alW wl (needN n) l o) (alB (needN n) l o) r ∧ Chg [g] w w' := by
  obtain ⟨hlen, hwl, hm⟩ := h.len
  have C0 := Lib.hid (fun w => rneed_is n w)
  have C1 := Lib.hid (rmblk_is w h)
  generalize needN n = N at *
  have C2 := Lib.hid (fun v w' (hv : RA blkE w' v l) => rfits_is N l v w' hv (by omega))
  have hfl : (fitN N l).length ≤ 256 := by
    have := fbl_len N l
    rw [fbl, List.length_map] at this
    omega
  obtain ⟨v, hW, hv, _⟩ := h.rows
  have c0 : ∀ w', Below w.heap.size w w' → w'.cell? ⟨g, 0, none⟩ = some v := fun w' hb => by rw [hb.cell (p := ⟨g, 0, none⟩) hW.lt, Whole.at_ hW]; rfl
  have f0 : ∀ w', Below w.heap.size w w' → w'.frozen? ⟨g, 0, none⟩ = false := fun w' hb => Whole.free ((hb.block g hW.lt).trans hW) 0
  obtain ⟨R, hR⟩ : ∃ R, alQ N l o = R := ⟨_, rfl⟩
  rw [hR]
  have NONE : Hid (R = none → ∀ w', Below w.heap.size w w' → Rm w' D g (alW wl N l o) (alB N l o) r ∧ Chg [g] w w') := Lib.hid fun hn w' hb => by
    rw [hn] at hR
    unfold alW alB
    rw [hR]
    exact ⟨h.below hb, Chg.of_below hb _⟩
  have SOME : Hid (∀ d, R = some d → (∀ (v' : Value) (w' : World), Below w.heap.size w w' → RA edE w' v' (cedF l d N) → Calls Try.prog 53 #[v, v'] w' fun e w'' => (∃ x, e = .returned x ∧ OwnU w'.heap.size w'' x (alW wl N l o)) ∧ Below w'.heap.size w' w'') ∧
      ∀ (wq : World) (uq : Value) (B : Nat), Below w.heap.size w wq → OwnU B wq uq (alW wl N l o) → w.heap.size ≤ B → Rm (wq.setCell ⟨g, 0, none⟩ uq) D g (alW wl N l o) (alB N l o) r ∧ Chg [g] w (wq.setCell ⟨g, 0, none⟩ uq)) := Lib.hid fun d hd => by
    rw [hd] at hR
    have hmem := List.mem_of_find?_eq_some hR
    obtain ⟨g1, g2, g3, g4, g5⟩ := fit_can hm hmem
    obtain ⟨k1, z, t, m, e1, e2, _, _, hT⟩ := taken h.hB h.ok g2
    have hE := ced_len hm g2
    unfold alW alB
    rw [hR]
    exact ⟨fun v' w' hb hv' => rapply_any wl _ v v' w' (ru_below hv hb) hv' (by omega) (by omega), fun wq uq B hb ho hB => h.put hb ho hB k1 hT.ok⟩
  have CE := Lib.hid (fun (d : Nat) (v' : Value) (w' : World) (hv' : RA blkE w' v' l) => rcedits_is l d N v' w' hv' (by omega))
  have hmm : ∀ i ∈ fitN N l, i < l.length := fun i hi => (fitN_mem hi).1
  unfold alQ at hR
  generalize fitN N l = F at *
  have HR := Lib.hid hR
  have HL := Lib.hid (And.intro hlen hfl)
  have HM := Lib.hid hmm
  obtain ⟨pv, cv, rfl, _, _, _⟩ := id hv
  clear hlen hfl h hR hm hwl hW hv hmm
  generalize wl.length = WL at *
  go_enter Try.func31, Try.ntmps31
  go_wp2_with fail
  refine (C1.out).mono ?_; rintro e w1 ⟨⟨v1, rfl, o1⟩, b1⟩
  have D1 := Lib.hid b1
  have O1 := Lib.hid o1.ra
  clear b1 o1 C1
  go_wp2_with fail
  refine (C0.out _).mono ?_; rintro e w1 ⟨rfl, rfl⟩
  go_wp2_with fail
  refine (C2.out _ _ O1.out).mono ?_; rintro e w2 ⟨⟨v2, rfl, o2⟩, b2⟩
  have D2 := Lib.hid (below_more D1.out b2)
  have HF := Lib.hid o2.ri
  have O2 := Lib.hid (ra_below O1.out b2)
  obtain ⟨pf, cf, rfl⟩ := o2.shape
  obtain ⟨pl, cl, rfl, _, _⟩ := ra_shape O1.out
  clear b2 o2 C2 O1
  rw [ins_length] at HF ⊢
  go_wp2
  go_loopw [17] (fun i wr => ∃ (k : Nat), k ≤ F.length ∧ i = .int .i64 k ∧ Hid ((F.drop k).find? (fun d => decide (offB (l.getD d default).a = o)) = R ∧ Below w2.heap.size w2 wr)) (fun i _ => F.length - (intOf i).toNat)
  case atStart => exact ⟨0, Nat.zero_le _, rfl, Lib.hid ⟨by rw [List.drop_zero]; exact HR.out, Below.refl _ _⟩⟩
  case round =>
    obtain ⟨k, hk, rfl, H⟩ := hrel
    by_cases hlt : k < F.length
    · obtain ⟨bf, of, rfl, _, hfr⟩ := ri_some (ri_below HF.out H.out.2) (by rw [ins_length]; omega)
      have cf1 := hfr k (by rw [ins_length]; exact hlt)
      rw [ins_getD hlt] at cf1
      have hi := HM.out _ (getD_mem_n hlt)
      obtain ⟨b, off, rfl, _, hx⟩ := blk_at (ra_below O2.out H.out.2) (by omega)
      obtain ⟨hld, _, _, _, _⟩ := hx _ hi
      have hF := H.out.1
      rw [getD_cut_n hlt, List.find?_cons] at hF
      have i0 : (0 : Int) ≤ (k : Int) := by omega
      have i1 : (k : Int) < (F.length : Int) := by omega
      have i2 : ¬ (k : Int) < 0 := by omega
      have i3 : IntKind.i64.wrap ((k : Int) + 1) = ((k + 1 : Nat) : Int) := by rw [show (k : Int) + 1 = ((k + 1 : Nat) : Int) by omega]; exact i64_nat _ (by have := HL.out; omega)
      have q1 : ((F.getD k 0 : Nat) : Int) < (l.length : Int) := by omega
      have q3 : ¬ ((F.getD k 0 : Nat) : Int) < 0 := by omega
      have q5 : (0 : Int) ≤ ((F.getD k 0 : Nat) : Int) := by omega
      have HK := Lib.hid hlt
      have HO2 := Lib.hid (fun w' (hb : Below wr.heap.size wr w') => ra_below O2.out (below_more H.out.2 hb))
      clear hfr hk hx hi hlt
      generalize F.getD k 0 = I at *
      generalize l.getD I default = X at *
      obtain ⟨x, hx⟩ : ∃ x, offB X.a = x := ⟨_, rfl⟩
      have C := Lib.hid (roff_is X x hx wr)
      rw [hx] at hF
      clear hx
      by_cases hxo : x = o
      · rw [decide_eq_true hxo] at hF
        have e1 : (x == o) = true := by rw [hxo]; simp
        obtain ⟨ca, fin⟩ := SOME.out I hF.symm
        have CA := Lib.hid ca
        have FIN := Lib.hid fin
        subst hF
        have CEI := Lib.hid (CE.out I)
        clear hxo ca fin SOME NONE CE
        generalize cedF l I N = E at *
        go_wp2_with fail
        refine (C.out).mono ?_; rintro e w3 ⟨rfl, b3⟩
        have B3 := Lib.hid (below_more D2.out (below_more H.out.2 b3))
        have R3 := Lib.hid (HO2.out w3 b3)
        have d3 := c0 w3.drew B3.out.drew
        clear b3
        generalize l.length = L at *
        go_wp2_with fail
        go_region_law (first
          | (go_simp; go_at_call 29; refine (C0.out _).mono ?_; rintro e wz ⟨rfl, rfl⟩)
          | (go_simp; go_at_call 54; refine (CEI.out _ _ (ra_below R3.out ((Below.refl _ _).drew))).mono ?_; rintro e wy ⟨⟨ue, rfl, oe⟩, hby⟩
             have BY := Lib.hid (show Below w.heap.size w wy from below_more B3.out.drew hby)
             have OE := Lib.hid oe.ra
             have dy := c0 wy BY.out
             clear oe hby)
          | (go_simp; go_at_call 53; refine (CA.out _ _ BY.out OE.out).mono ?_; rintro e wq ⟨⟨uq, rfl, oq⟩, hbq⟩
             have BQ := Lib.hid (below_more BY.out hbq)
             have FQ := Lib.hid (FIN.out wq uq _ BQ.out oq BY.out.size)
             have dq := c0 wq BQ.out
             have fq := f0 wq BQ.out
             obtain ⟨pq, cq, rfl⟩ := oq.shape
             clear oq hbq))
        all_goals
          go_wp2
          all_goals
            go_ret
            exact ⟨rfl, FQ.out⟩
      · rw [decide_eq_false hxo] at hF
        have e1 : (x == o) = false := beq_eq_false_iff_ne.2 hxo
        have HF2 := Lib.hid hF
        clear hF hxo
        go_wp2_with fail
        refine (C.out).mono ?_; rintro e w3 ⟨rfl, b3⟩
        have B3 := Lib.hid (below_more H.out.2 b3)
        clear b3
        go_wp2
        go_roundw
        case rel => exact ⟨k + 1, by have := HK.out; omega, by go_num, Lib.hid ⟨HF2.out, B3.out⟩⟩
        case measure => have := HK.out; simp [intOf]; omega
    · obtain rfl : k = F.length := by omega
      have hF := H.out.1
      rw [List.drop_length, List.find?_nil] at hF
      subst hF
      have FN := Lib.hid (NONE.out rfl wr (below_more D2.out H.out.2))
      go_wp2
      go_ret
      exact ⟨rfl, FN.out⟩
end Go.Proofs.Ytkpefnjohdjejaa
