/-
  Of blocks that may be, where one is taken as many words are taken as fit.Takes says, the rest stays free, and the others are as they were; none is taken that is used or too small. No conditions.
-/
import Derived.Test.YtabdcdddkmklcaaCrx
namespace Go.Proofs.Ytabdcdddkmklcaa.carveCounts
set_option maxRecDepth 100000
open Go.Proofs.Ytabdcdddkmklcaa Go.ChangeShapes Go.WideShapes Go.ChangeAt Go.RowKit

set_option maxHeartbeats 1000000 in
theorem far (l : List Bk) (p : Option Addr) (c : Nat) (n i k : Int) (w : World) (hv : RA blkE w (.slice p l.length c) l) (h : 300 < l.length ∨ l.length = 0 ∨ mayL n l = false) :
    Calls Try.prog 5 #[.slice p l.length c, .int .i64 n, .int .i64 i, .int .i64 k] w fun e w' => e = .returned (.bool true) ∧ Below w.heap.size w w' := by
  by_cases h1 : 300 < l.length
  · clear hv h
    generalize l.length = L at *
    have i1 : (L : Int) > 300 := by omega
    go_enter Try.func5, Try.ntmps5
    go_wp2_with fail
    refine (awake_any _).mono ?_; rintro e w' ⟨rfl, hb⟩
    go_wp2_with fail
    go_ret
    exact ⟨rfl, hb⟩
  by_cases h2 : l.length = 0
  · clear hv h
    rw [h2]
    go_enter Try.func5, Try.ntmps5
    go_wp2_with fail
    refine (awake_any _).mono ?_; rintro e w' ⟨rfl, hb⟩
    go_wp2_with fail
    go_ret
    exact ⟨rfl, hb⟩
  have h3 : mayL n l = false := (h.resolve_left h1).resolve_left h2
  have M := Lib.hid (rmay_is n l _ false w hv (by omega) h3)
  have i1 : ¬ (l.length : Int) > 300 := by omega
  have i2 : ((l.length : Int) == 0) = false := beq_eq_false_iff_ne.2 (by omega)
  clear hv h h1 h2 h3
  generalize l.length = L at *
  go_enter Try.func5, Try.ntmps5
  go_wp2_with fail
  refine (M.out).mono ?_; rintro e w1 ⟨rfl, b1⟩
  have D1 := Lib.hid b1
  clear b1
  go_wp2_with fail
  refine (awake_any _).mono ?_; rintro e w2 ⟨rfl, b2⟩
  have D2 := Lib.hid (below_more D1.out b2)
  clear b2
  go_wp2_with fail
  go_ret
  exact ⟨rfl, D2.out⟩

set_option maxHeartbeats 2000000 in
theorem near (l : List Bk) (p : Option Addr) (c : Nat) (n i k : Int) (w : World) (hv : RA blkE w (.slice p l.length c) l) (h1 : l.length ≤ 300) (h2 : 0 < l.length) (h3 : mayL n l = true) :
    Calls Try.prog 5 #[.slice p l.length c, .int .i64 n, .int .i64 i, .int .i64 k] w fun e w' => e = .returned (.bool true) ∧ Below w.heap.size w w' := by
  obtain ⟨u1, I, t1, t2, t3, t4, hI⟩ := place_of i l.length h2 h1
  obtain ⟨u2, q, N, t5, t6, t7, t8, hN, hN2⟩ := need_of k
  have M := Lib.hid (rmay_is n l _ true w hv (by omega) h3)
  have hcan := can_at h3 hI (N := N) (by omega)
  obtain ⟨⟨s1, s2⟩, a1, a2⟩ := at_in h3 hI
  have hwf := (ra_ok hv).at_ hI
  obtain ⟨hfl, hf0, hf5⟩ := frL_in h3
  have hbn := bAt_nat l I
  obtain ⟨b, off, rfl, _, _⟩ := blk_at hv (by omega)
  have HX : Hid (∀ w', Below w.heap.size w w' → w'.cell? ⟨b, off + I * 3 + 1, none⟩ = some (.int .i64 (l.getD I default).s) ∧ w'.cell? ⟨b, off + I * 3 + 2, none⟩ = some (.bool (l.getD I default).u)) := Lib.hid fun w' hb' => by
    obtain ⟨_, _, e, _, hx⟩ := blk_at (ra_below hv hb') (by omega)
    cases e
    obtain ⟨_, x1, x2, x3, _⟩ := hx I hI
    exact ⟨x2, x3⟩
  have FL := Lib.hid (fun (w' : World) (hb : Below w.heap.size w w') => rfree_is l _ (frS l) w' (ra_below hv hb) hfl)
  have i1 : ¬ (l.length : Int) > 300 := by omega
  have i2 : ((l.length : Int) == 0) = false := beq_eq_false_iff_ne.2 (by omega)
  have i3 : ¬ (l.length : Int) = 0 := by omega
  have i4 : ¬ (I : Int) < 0 := by omega
  have i5 : (I : Int) < (l.length : Int) := by omega
  have i6 : ¬ l.length = 0 := by omega
  have HL := Lib.hid h1
  obtain ⟨r, hr⟩ : ∃ r, canC l I N = r := ⟨_, rfl⟩
  have CB := Lib.hid (fun (w' : World) (hb : Below w.heap.size w w') => cblocks_is l I N _ w' (ra_below hv hb) (by omega) r hr)
  cases r with
  | false =>
    rw [hr] at hcan
    rw [crvF_no hr] at CB
    obtain ⟨⟨a, s, u⟩, hb⟩ : ∃ x, l.getD I default = x := ⟨_, rfl⟩
    rw [hb] at hcan HX
    simp only at hcan HX
    have hus : u = true ∨ u = false ∧ s < N := by
      cases u
      · refine .inr ⟨rfl, ?_⟩
        by_cases c : (N : Int) ≤ s
        · rw [decide_eq_true c] at hcan; cases hcan
        · omega
      · exact .inl rfl
    clear hv h1 h2 h3 hI hN hN2 hcan s1 s2 a1 a2 hwf hb hr hbn hfl FL hf0 hf5
    generalize l.length = L at *
    go_enter Try.func5, Try.ntmps5
    go_wp2_with fail
    refine (M.out).mono ?_; rintro e w1 ⟨rfl, b1⟩
    have D1 := Lib.hid b1
    clear b1
    go_wp2_with fail
    refine (CB.out w1 D1.out).mono ?_; rintro e w2 ⟨⟨ve, rfl, _⟩, b2⟩
    have D2 := Lib.hid (below_more D1.out b2)
    obtain ⟨x1, x2⟩ := HX.out w2 D2.out
    clear b2 M CB HX
    rcases hus with rfl | ⟨rfl, hs⟩
    · go_wp2_with fail
      refine (awake_any _).mono ?_; rintro e w3 ⟨rfl, b3⟩
      have D3 := Lib.hid (below_more D2.out b3)
      clear b3
      go_wp2_with fail
      go_ret
      exact ⟨rfl, D3.out⟩
    · go_wp2_with fail
      refine (awake_any _).mono ?_; rintro e w3 ⟨rfl, b3⟩
      have D3 := Lib.hid (below_more D2.out b3)
      clear b3
      go_wp2_with fail
      go_ret
      exact ⟨rfl, D3.out⟩
  | true =>
    have hP := crv_at hr
    have hlen := crv_length hr
    have hfr := crv_free hr
    have hmp := mayL_crv h3 hr
    obtain ⟨hpl, hp0, hp5⟩ := frL_in hmp
    obtain ⟨_, _, _, hu, ht⟩ := canC_yes.1 hr
    obtain ⟨g1, g2, g3, g4⟩ := takN_some ht
    rw [bAt_nat] at hP
    rw [hbn] at hP hlen hfr hu ht g2 g3 g4
    obtain ⟨⟨a, s, u⟩, hb⟩ : ∃ x, l.getD I default = x := ⟨_, rfl⟩
    rw [hb] at HX hP hlen hfr hu ht g2 g3 g4 hwf s1 s2 a1 a2
    simp only at HX hP hlen hfr hu ht g2 g3 g4 s1 s2 a1 a2
    subst hu
    obtain ⟨t, hte⟩ : ∃ t, takN s N = t := ⟨_, rfl⟩
    rw [hte] at hP hlen hfr ht g2 g3 g4
    have C3 := Lib.hid (fun w => rtakes_is s N t hwf.ws hte w)
    have FP := Lib.hid (fun (v : Value) (w' : World) (h : RA blkE w' v (crvF l I N)) => rfree_is (crvF l I N) v (frS (crvF l I N)) w' h hpl)
    have MP := Lib.hid (fun (v : Value) (w' : World) (h : RA blkE w' v (crvF l I N)) => rmay_is n (crvF l I N) v true w' h (by rw [hlen]; split <;> omega) hmp)
    have j1 : IntKind.i64.wrap (frS l - t) = frS (crvF l I N) := by rw [hfr]; exact IntWalk.i64_in _ (by omega)
    obtain ⟨Y, hY⟩ : ∃ Y, (crvF l I N).length = Y := ⟨_, rfl⟩
    have hIY : I < Y := by rw [← hY, hlen]; exact Nat.lt_of_lt_of_le hI (Nat.le_add_right _ _)
    have hgt : ¬ (t = s) → t < s := by omega
    have j2 : (¬ t = s → IntKind.i64.wrap ((l.length : Int) + 1) = (Y : Int)) ∧ (t = s → (l.length : Int) = (Y : Int)) := by
      rw [← hY, hlen]
      refine ⟨fun e => ?_, fun e => by rw [if_pos e]; rfl⟩
      rw [if_neg e]
      exact i64_nat (l.length + 1) (by omega)
    have J2 := Lib.hid (And.intro j2 (And.intro hIY (And.intro hY hgt)))
    have HP := Lib.hid hP
    clear hv h1 h2 h3 hI hN hN2 hcan s1 s2 a1 a2 hwf hb hr hbn hfl hf0 hf5 hP hlen hfr hmp hpl hp0 hp5 ht g1 g2 g3 g4 hte j2 hIY hY hgt
    generalize crvF l I N = P at *
    generalize frS P = F at *
    generalize frS l = G at *
    generalize l.length = L at *
    have f1 : (F == F) = true := by simp
    have f2 : (t == t) = true := by simp
    go_enter Try.func5, Try.ntmps5
    go_wp2_with fail
    refine (M.out).mono ?_; rintro e w1 ⟨rfl, b1⟩
    have D1 := Lib.hid b1
    clear b1
    go_wp2_with fail
    refine (CB.out w1 D1.out).mono ?_; rintro e w2 ⟨⟨ve, rfl, oe⟩, b2⟩
    have D2 := Lib.hid (below_more D1.out b2)
    obtain ⟨x1, x2⟩ := HX.out w2 D2.out
    obtain ⟨g, d, rfl, hgd, _, HK⟩ := oe.as_slice (by have := J2.out; omega)
    have HK := Lib.hid HK
    have hE := J2.out.2.2.1
    rw [hE] at HK hgd ⊢
    clear oe b2 M CB hE
    go_wp2_with fail
    refine (C3.out _).mono ?_; rintro e w' ⟨rfl, rfl⟩
    by_cases c1 : t = s
    · have e1 := J2.out.1.2 c1
      have c2 : ¬ t < s := by omega
      clear c1
      go_wp2_with fail
      refine (MP.out _ w2 (HK.out w2 (Below.refl _ _)).1).mono ?_; rintro e w3 ⟨rfl, b3⟩
      have D3 := Lib.hid (below_more D2.out b3)
      obtain ⟨R3, hc⟩ := HK.out w3 b3
      obtain ⟨_, y1, _⟩ := hc I (by have := J2.out; omega)
      rw [HP.out] at y1
      have y1 : w3.cell? ⟨g, I * 3 + 1, none⟩ = some (.int .i64 t) := y1
      have FP2 := Lib.hid (FP.out _ w3 R3)
      clear hc R3 b3
      have e3 : (I : Int) < (Y : Int) := by have := J2.out; omega
      go_wp2_with fail
      refine (FP2.out).mono ?_; rintro e w4 ⟨rfl, b4⟩
      have D4 := Lib.hid (below_more D3.out b4)
      clear b4
      go_wp2_with fail
      refine (FL.out w4 D4.out).mono ?_; rintro e w5 ⟨rfl, b5⟩
      have D5 := Lib.hid (below_more D4.out b5)
      clear b5
      go_wp2_with fail
      refine (awake_any _).mono ?_; rintro e w6 ⟨rfl, b6⟩
      have D6 := Lib.hid (below_more D5.out b6)
      clear b6
      go_wp2_with fail
      go_ret
      exact ⟨rfl, D6.out⟩
    · have e1 := J2.out.1.1 c1
      have c2 := J2.out.2.2.2 c1
      clear c1
      go_wp2_with fail
      refine (MP.out _ w2 (HK.out w2 (Below.refl _ _)).1).mono ?_; rintro e w3 ⟨rfl, b3⟩
      have D3 := Lib.hid (below_more D2.out b3)
      obtain ⟨R3, hc⟩ := HK.out w3 b3
      obtain ⟨_, y1, _⟩ := hc I (by have := J2.out; omega)
      rw [HP.out] at y1
      have y1 : w3.cell? ⟨g, I * 3 + 1, none⟩ = some (.int .i64 t) := y1
      have FP2 := Lib.hid (FP.out _ w3 R3)
      clear hc R3 b3
      have e3 : (I : Int) < (Y : Int) := by have := J2.out; omega
      go_wp2_with fail
      refine (FP2.out).mono ?_; rintro e w4 ⟨rfl, b4⟩
      have D4 := Lib.hid (below_more D3.out b4)
      clear b4
      go_wp2_with fail
      refine (FL.out w4 D4.out).mono ?_; rintro e w5 ⟨rfl, b5⟩
      have D5 := Lib.hid (below_more D4.out b5)
      clear b5
      go_wp2_with fail
      refine (awake_any _).mono ?_; rintro e w6 ⟨rfl, b6⟩
      have D6 := Lib.hid (below_more D5.out b6)
      clear b6
      go_wp2_with fail
      go_ret
      exact ⟨rfl, D6.out⟩

theorem walk (l0 : List Bk) (v0 : Value) (a1 a2 a3 : Int) (w : World) (h0 : RA blkE w v0 l0) (_ : (Lit.int .i64 a1).wf = true) (_ : (Lit.int .i64 a2).wf = true) (_ : (Lit.int .i64 a3).wf = true) :
    Calls Try.prog 5 #[v0, .int .i64 a1, .int .i64 a2, .int .i64 a3] w fun e w' => e = .returned (.bool true) ∧ Below w.heap.size w w' := by
  obtain ⟨p, c, rfl, _⟩ := ra_shape h0
  by_cases h : 300 < l0.length ∨ l0.length = 0 ∨ mayL a1 l0 = false
  · exact far l0 p c a1 a2 a3 w h0 h
  · have h' := not_or.1 h
    have h'' := not_or.1 h'.2
    exact near l0 p c a1 a2 a3 w h0 (by omega) (by omega) (by simpa using h''.2)

set_option maxRecDepth 100000 in
theorem lifted (os : Os) (started : os.Started) (H : Type) (enc : TypeId × Value → H) :
    ReturnsInHanded {} Try.checked os 5 .any (Rows.carveCountsSpec.pre6 enc Try.prog Try.f5 Rows.carveCountsRow.domain false) (Rows.carveCountsSpec.post enc Try.prog Try.f5 false true false false) := by
  refine returnsInHanded_of_change (C := Try.checked) own started (by kernel_rfl) Try.func5
    (ChangeSpec.witness6 (enc := enc) (C := Try.checked) false ⟨#[], #[.slice none 0 0, .int .i64 0, .int .i64 0, .int .i64 0], []⟩ 8 (by kernel_rfl) (by kernel_rfl) (by kernel_rfl) (by kernel_rfl)) ?_
  intro W base args ds gs before hval0 hW hcnd _
  have hval : ∀ (j : Nat) t v, Try.f5.params[j]? = some t → args[j]? = some v → Value.okWide Try.prog W .any base t v := hval0
  have hW' := hW
  have hlt := hW.lt
  obtain ⟨p, q, hA0, hV, hpq, hfz, hnd⟩ := hW
  have hA : DataW.TrodAll enc Try.prog W 0 (fun _ => true) true Try.f5.params.toList args.toList ds p := hA0
  rw [Try.params5] at hA hval
  obtain ⟨v0, vs0, d0, ds0, p0, q0, hargs, rfl, hp, h0, r0⟩ := trodAll_cons hA
  obtain ⟨v1, vs1, d1, ds1, p1, q1, rfl, rfl, rfl, h1, r1⟩ := trodAll_cons r0
  obtain ⟨v2, vs2, d2, ds2, p2, q2, rfl, rfl, rfl, h2, r2⟩ := trodAll_cons r1
  obtain ⟨v3, vs3, d3, ds3, p3, q3, rfl, rfl, rfl, h3, r3⟩ := trodAll_cons r2
  obtain ⟨rfl, rfl, rfl⟩ := trodAll_nil r3
  obtain rfl : args = #[v0, v1, v2, v3] := by cases args; simp_all
  obtain ⟨rfl, rfl⟩ := trodVars_none hV
  have hlt' : ∀ x ∈ before, x.block < W.heap.size := fun x hx => hlt x hx
  obtain ⟨l0, w0⟩ := blocks_in (hval 0 22 v0 rfl rfl) h0
  obtain ⟨a1, rfl, rfl, rfl, w1⟩ := open_int Try.underlying3 (hval 1 3 v1 rfl rfl) h1
  obtain ⟨a2, rfl, rfl, rfl, w2⟩ := open_int Try.underlying3 (hval 2 3 v2 rfl rfl) h2
  obtain ⟨a3, rfl, rfl, rfl, w3⟩ := open_int Try.underlying3 (hval 3 3 v3 rfl rfl) h3
  refine (walk l0 v0 a1 a2 a3 W w0 w1 w2 w3).mono fun e W' ⟨he, hb⟩ => ?_
  subst he
  exact ⟨_, rfl, law_post rfl (by kernel_rfl) hW' (by rw [Try.params5]; intro t ht; simp only [List.mem_cons, List.not_mem_nil, or_false] at ht; (repeat' (first | (rcases ht with rfl | ht) | subst ht)) <;> exact ⟨by kernel_rfl, of_decide_eq_true (by kernel_rfl)⟩) rfl hb⟩

theorem over : Rows.carveCountsRow.holds Try.pinned (OpenSpec.ofChange Rows.carveCountsSpec) :=
  OpenClaim.holds_of_wide 5 Try.f5 rfl rfl rfl rfl rfl rfl rfl ⟨rfl, rfl, rfl, rfl, rfl⟩ rfl rfl rfl rfl rfl (by kernel_rfl) Try.func5 (by kernel_rfl)
    (of_decide_eq_true (by kernel_rfl)) (by unfold Func.isWrapper; first | (rw [if_pos (by decide +kernel)]; kernel_rfl) | (rw [if_neg (by decide +kernel)]; exact ⟨rfl, rfl⟩))
    (fun os started H enc _ => lifted os started H enc)

theorem proved : Rows.CarveCountsSaid := over
end Go.Proofs.Ytabdcdddkmklcaa.carveCounts
