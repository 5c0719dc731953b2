/-
  Of any words, blocks and numbers, package chain tells blocks, first words, whether blocks may be, what is free, and the place of a word, as the reference does. No conditions.
-/
import Derived.Test.YtcfpmpgodkepfaaBkj
namespace Go.Proofs.Ytcfpmpgodkepfaa.chainForms
set_option maxRecDepth 100000
open Go.Proofs.Ytcfpmpgodkepfaa Go.ChangeShapes Go.WideShapes Go.ChangeAt Go.RowKit

set_option maxHeartbeats 1000000 in
theorem far (l0 : List Int) (p0 : Option Addr) (c0 : Nat) (l1 : List Bk) (p1 : Option Addr) (c1 : Nat) (a2 a3 : Int) (w : World) (h : 1000 < l0.length ∨ 700 < l1.length) :
    Calls Try.prog 3 #[.slice p0 l0.length c0, .slice p1 l1.length c1, .int .i64 a2, .int .i64 a3] w fun e w' => e = .returned (.bool true) ∧ Below w.heap.size w w' := by
  generalize l0.length = L at *
  generalize l1.length = M at *
  by_cases h1 : 1000 < L
  · have i1 : (L : Int) > 1000 := by omega
    clear h
    go_enter Try.func3, Try.ntmps3
    go_wp2_with fail
    refine (awake_any _).mono ?_; rintro e w' ⟨rfl, hb⟩
    go_wp2_with fail
    go_ret
    exact ⟨rfl, hb⟩
  · have i1 : ¬ (L : Int) > 1000 := by omega
    have i2 : (M : Int) > 700 := by omega
    clear h
    go_enter Try.func3, Try.ntmps3
    go_wp2_with fail
    refine (awake_any _).mono ?_; rintro e w' ⟨rfl, hb⟩
    go_wp2_with fail
    go_ret
    exact ⟨rfl, hb⟩

set_option maxHeartbeats 4000000 in
theorem near (l0 : List Int) (p0 : Option Addr) (c0 : Nat) (l1 : List Bk) (p1 : Option Addr) (c1 : Nat) (a2 a3 : Int) (w : World) (h0 : RU w (.slice p0 l0.length c0) l0) (hw : WordsOk l0) (h1 : RA blkE w (.slice p1 l1.length c1) l1) (w3 : (Lit.int .i64 a3).wf = true)
    (n0 : l0.length ≤ 1000) (n1 : l1.length ≤ 700) :
    Calls Try.prog 3 #[.slice p0 l0.length c0, .slice p1 l1.length c1, .int .i64 a2, .int .i64 a3] w fun e w' => e = .returned (.bool true) ∧ Below w.heap.size w w' := by
  obtain ⟨R, hR⟩ : ∃ R, blkF l0 = R := ⟨_, rfl⟩
  obtain ⟨m, hm⟩ : ∃ m, mayL a2 l1 = m := ⟨_, rfl⟩
  obtain ⟨f, hf⟩ : ∃ f, frL l1 = f := ⟨_, rfl⟩
  obtain ⟨g, hg⟩ : ∃ g, moL l1 = g := ⟨_, rfl⟩
  obtain ⟨q, hq⟩ : ∃ q, atS a3 0 l1 = q := ⟨_, rfl⟩
  have i0 : ¬ (l0.length : Int) > 1000 := by omega
  have i1 : ¬ (l1.length : Int) > 700 := by omega
  have HR := Lib.hid h1
  have HU := Lib.hid h0
  have B1 := Lib.hid (blocks_is l0 _ R w h0 n0 hw hR)
  have B2 := Lib.hid (fun (w' : World) (hb : Below w.heap.size w w') => rblocks_main l0 _ R w' (ru_below HU.out hb) n0 hw hR)
  have M1 := Lib.hid (fun (w' : World) (hb : Below w.heap.size w w') => may_is a2 l1 _ m w' (ra_below HR.out hb) (by omega) hm)
  have M2 := Lib.hid (fun (w' : World) (hb : Below w.heap.size w w') => rmay_is a2 l1 _ m w' (ra_below HR.out hb) (by omega) hm)
  have F1 := Lib.hid (fun (w' : World) (hb : Below w.heap.size w w') => free_is l1 _ f w' (ra_below HR.out hb) hf)
  have F2 := Lib.hid (fun (w' : World) (hb : Below w.heap.size w w') => rfree_is l1 _ f w' (ra_below HR.out hb) hf)
  have G1 := Lib.hid (fun (w' : World) (hb : Below w.heap.size w w') => most_is l1 _ g w' (ra_below HR.out hb) hg)
  have G2 := Lib.hid (fun (w' : World) (hb : Below w.heap.size w w') => rmost_is l1 _ g w' (ra_below HR.out hb) hg)
  have A1 := Lib.hid (fun (w' : World) (hb : Below w.heap.size w w') => at_is a3 l1 _ q w' (ra_below HR.out hb) w3 hq)
  have A2 := Lib.hid (fun (w' : World) (hb : Below w.heap.size w w') => rat_is_b a3 l1 _ q w' (ra_below HR.out hb) w3 hq)
  have m1 : (m == m) = true := by simp
  have r1 : (R.isSome == R.isSome) = true := by simp
  generalize R.isSome = s at *
  clear hR hm hf hg hq h0 hw h1 w3 n0 n1
  generalize l0.length = L at *
  generalize l1.length = N at *
  go_enter Try.func3, Try.ntmps3
  go_wp2_with fail
  refine (B1.out).mono ?_; rintro e w1 ⟨⟨v, rfl, o1⟩, b1⟩
  have O1 := Lib.hid o1
  have D1 := Lib.hid b1
  clear o1 b1
  go_wp2_with fail
  refine (B2.out w1 D1.out).mono ?_; rintro e w2 ⟨⟨u, rfl, o2⟩, b2⟩
  have D2 := Lib.hid (below_more D1.out b2)
  have S2 := Lib.hid (fun (w' : World) => blks_same (w := w2) (O1.out.below b2).ra o2.ra)
  clear o2 b2 O1
  go_wp2_with fail
  refine (S2.out w2).mono ?_; rintro e w3 ⟨rfl, n, rfl⟩
  have D3 := Lib.hid (below_drewN D2.out n)
  obtain ⟨w3, hw3⟩ : ∃ w3, w2.drewN n = w3 := ⟨_, rfl⟩
  rw [hw3] at D3
  clear S2
  go_wp2_with fail
  refine (first_is a2 _).mono ?_; rintro e w4 ⟨⟨v4, rfl, o4⟩, b4⟩
  have D4 := Lib.hid (below_more D3.out b4)
  have O4 := Lib.hid o4
  clear o4 b4
  go_wp2_with fail
  refine (rfirst_is a2 _).mono ?_; rintro e w5 ⟨⟨v5, rfl, o5⟩, b5⟩
  have D5 := Lib.hid (below_more D4.out b5)
  have S5 := Lib.hid (words_same (w := w5) (O4.out.below b5).ru o5.ru)
  clear o5 b5 O4 hw3
  go_wp2_with fail
  refine (S5.out).mono ?_; rintro e w6 ⟨rfl, n2, rfl⟩
  have D6 := Lib.hid (below_drewN D5.out n2)
  clear S5
  go_wp2_with fail
  refine (M1.out _ D6.out).mono ?_; rintro e w7 ⟨rfl, b7⟩
  have D7 := Lib.hid (below_more D6.out b7)
  clear b7
  go_wp2_with fail
  refine (M2.out _ D7.out).mono ?_; rintro e w8 ⟨rfl, b8⟩
  have D8 := Lib.hid (below_more D7.out b8)
  clear b8
  go_wp2_with fail
  refine (F1.out _ D8.out).mono ?_; rintro e w9 ⟨rfl, b9⟩
  have D9 := Lib.hid (below_more D8.out b9)
  clear b9
  go_wp2_with fail
  refine (F2.out _ D9.out).mono ?_; rintro e wa ⟨rfl, ba⟩
  have Da := Lib.hid (below_more D9.out ba)
  clear ba
  go_wp2_with fail
  refine (G1.out _ Da.out).mono ?_; rintro e wb ⟨rfl, bb⟩
  have Db := Lib.hid (below_more Da.out bb)
  clear bb
  go_wp2_with fail
  refine (G2.out _ Db.out).mono ?_; rintro e wd ⟨rfl, bd⟩
  have Dd := Lib.hid (below_more Db.out bd)
  clear bd
  go_wp2_with fail
  refine (M2.out _ Dd.out).mono ?_; rintro e we ⟨rfl, be⟩
  have De := Lib.hid (below_more Dd.out be)
  clear be
  cases m
  · go_wp2_with fail
    refine (awake_any _).mono ?_; rintro e wg ⟨rfl, bg⟩
    have Dg := Lib.hid (below_more De.out bg)
    clear bg
    go_wp2_with fail
    go_ret
    exact ⟨rfl, Dg.out⟩
  · go_wp2_with fail
    refine (A1.out _ De.out).mono ?_; rintro e wf ⟨rfl, bf⟩
    have Df := Lib.hid (below_more De.out bf)
    clear bf
    go_wp2_with fail
    refine (A2.out _ Df.out).mono ?_; rintro e wg ⟨rfl, bg⟩
    have Dg := Lib.hid (below_more Df.out bg)
    clear bg
    go_wp2_with fail
    refine (awake_any _).mono ?_; rintro e wh ⟨rfl, bh⟩
    have Dh := Lib.hid (below_more Dg.out bh)
    clear bh
    go_wp2_with fail
    go_ret
    exact ⟨rfl, Dh.out⟩

theorem walk (l0 : List Int) (v0 : Value) (l1 : List Bk) (v1 : Value) (a2 a3 : Int) (w : World) (h0 : IntsIn .u64 w v0 l0) (h1 : RA blkE w v1 l1) (_ : (Lit.int .i64 a2).wf = true) (w3 : (Lit.int .i64 a3).wf = true) :
    Calls Try.prog 3 #[v0, v1, .int .i64 a2, .int .i64 a3] w fun e w' => e = .returned (.bool true) ∧ Below w.heap.size w w' := by
  have hr := ru_in h0
  have hw := words_ok (in_wf_u h0)
  obtain ⟨p0, c0, rfl, _⟩ := ru_in h0
  obtain ⟨p1, c1, rfl, _⟩ := ra_shape h1
  by_cases h : 1000 < l0.length ∨ 700 < l1.length
  · exact far l0 p0 c0 l1 p1 c1 a2 a3 w h
  · exact near l0 p0 c0 l1 p1 c1 a2 a3 w hr hw h1 w3 (by omega) (by omega)

set_option maxRecDepth 100000 in
theorem lifted (os : Os) (started : os.Started) (H : Type) (enc : TypeId × Value → H) :
    ReturnsInHanded {} Try.checked os 3 .any (Rows.chainFormsSpec.pre6 enc Try.prog Try.f3 Rows.chainFormsRow.domain false) (Rows.chainFormsSpec.post enc Try.prog Try.f3 false true false false) := by
  refine returnsInHanded_of_change (C := Try.checked) own started (by kernel_rfl) Try.func3
    (ChangeSpec.witness6 (enc := enc) (C := Try.checked) false ⟨#[], #[.slice none 0 0, .slice none 0 0, .int .i64 0, .int .i64 0], []⟩ 8 (by kernel_rfl) (by kernel_rfl) (by kernel_rfl) (by kernel_rfl)) ?_
  intro W base args ds gs before hval0 hW hcnd _
  have hval : ∀ (j : Nat) t v, Try.f3.params[j]? = some t → args[j]? = some v → Value.okWide Try.prog W .any base t v := hval0
  have hW' := hW
  have hlt := hW.lt
  obtain ⟨p, q, hA0, hV, hpq, hfz, hnd⟩ := hW
  have hA : DataW.TrodAll enc Try.prog W 0 (fun _ => true) true Try.f3.params.toList args.toList ds p := hA0
  rw [Try.params3] at hA hval
  obtain ⟨v0, vs0, d0, ds0, p0, q0, hargs, rfl, hp, h0, r0⟩ := trodAll_cons hA
  obtain ⟨v1, vs1, d1, ds1, p1, q1, rfl, rfl, rfl, h1, r1⟩ := trodAll_cons r0
  obtain ⟨v2, vs2, d2, ds2, p2, q2, rfl, rfl, rfl, h2, r2⟩ := trodAll_cons r1
  obtain ⟨v3, vs3, d3, ds3, p3, q3, rfl, rfl, rfl, h3, r3⟩ := trodAll_cons r2
  obtain ⟨rfl, rfl, rfl⟩ := trodAll_nil r3
  obtain rfl : args = #[v0, v1, v2, v3] := by cases args; simp_all
  obtain ⟨rfl, rfl⟩ := trodVars_none hV
  have hlt' : ∀ x ∈ before, x.block < W.heap.size := fun x hx => hlt x hx
  obtain ⟨l0, w0⟩ := ints_in Try.underlying22 Try.underlying35 (by kernel_rfl) (hval 0 22 v0 rfl rfl) (fun x hx => hlt' x (by rw [hpq, hp]; simp [hx])) h0
  obtain ⟨l1, w1⟩ := blocks_in (hval 1 23 v1 rfl rfl) h1
  obtain ⟨a2, rfl, rfl, rfl, w2⟩ := open_int Try.underlying3 (hval 2 3 v2 rfl rfl) h2
  obtain ⟨a3, rfl, rfl, rfl, w3⟩ := open_int Try.underlying3 (hval 3 3 v3 rfl rfl) h3
  refine (walk l0 v0 l1 v1 a2 a3 W w0 w1 w2 w3).mono fun e W' ⟨he, hb⟩ => ?_
  subst he
  exact ⟨_, rfl, law_post rfl (by kernel_rfl) hW' (by rw [Try.params3]; intro t ht; simp only [List.mem_cons, List.not_mem_nil, or_false] at ht; (repeat' (first | (rcases ht with rfl | ht) | subst ht)) <;> exact ⟨by kernel_rfl, of_decide_eq_true (by kernel_rfl)⟩) rfl hb⟩

theorem over : Rows.chainFormsRow.holds Try.pinned (OpenSpec.ofChange Rows.chainFormsSpec) :=
  OpenClaim.holds_of_wide 3 Try.f3 rfl rfl rfl rfl rfl rfl rfl ⟨rfl, rfl, rfl, rfl, rfl⟩ rfl rfl rfl rfl rfl (by kernel_rfl) Try.func3 (by kernel_rfl)
    (of_decide_eq_true (by kernel_rfl)) (by unfold Func.isWrapper; first | (rw [if_pos (by decide +kernel)]; kernel_rfl) | (rw [if_neg (by decide +kernel)]; exact ⟨rfl, rfl⟩))
    (fun os started H enc _ => lifted os started H enc)

theorem proved : Rows.ChainFormsSaid := over
end Go.Proofs.Ytcfpmpgodkepfaa.chainForms
