/-
  Given back one by one, in whatever order, all blocks become one free block. No conditions.
-/
import Derived.Test.YtlpbdnfecnochaaMga
namespace Go.Proofs.Ytlpbdnfecnochaa.mergeAll
set_option maxRecDepth 100000
open Go.Proofs.Ytlpbdnfecnochaa Go.ChangeShapes Go.WideShapes Go.ChangeAt Go.RowKit

set_option maxHeartbeats 1000000 in
theorem far (l : List Bk) (p : Option Addr) (c : Nat) (n k : Int) (w : World) (hv : RA blkE w (.slice p l.length c) l) (h : 100 < l.length ∨ l.length = 0 ∨ mayL n l = false) :
    Calls Try.prog 5 #[.slice p l.length c, .int .i64 n, .int .i64 k] w fun e w' => e = .returned (.bool true) ∧ Below w.heap.size w w' := by
  by_cases h1 : 100 < l.length
  · clear hv h
    generalize l.length = L at *
    have i1 : (L : Int) > 100 := by omega
    go_enter Try.func5, Try.ntmps5
    go_wp2_with fail
    refine (awake_any _).mono ?_; rintro e w' ⟨rfl, hb⟩
    go_wp2_with fail
    go_ret
    exact ⟨rfl, hb⟩
  by_cases h2 : l.length = 0
  · clear hv h
    rw [h2]
    go_enter Try.func5, Try.ntmps5
    go_wp2_with fail
    refine (awake_any _).mono ?_; rintro e w' ⟨rfl, hb⟩
    go_wp2_with fail
    go_ret
    exact ⟨rfl, hb⟩
  have h3 : mayL n l = false := (h.resolve_left h1).resolve_left h2
  have M := Lib.hid (rmay_is n l _ false w hv (by omega) h3)
  have i1 : ¬ (l.length : Int) > 100 := by omega
  have i2 : ((l.length : Int) == 0) = false := beq_eq_false_iff_ne.2 (by omega)
  clear hv h h1 h2 h3
  generalize l.length = L at *
  go_enter Try.func5, Try.ntmps5
  go_wp2_with fail
  refine (M.out).mono ?_; rintro e w1 ⟨rfl, b1⟩
  have D1 := Lib.hid b1
  clear b1
  go_wp2_with fail
  refine (awake_any _).mono ?_; rintro e w2 ⟨rfl, b2⟩
  have D2 := Lib.hid (below_more D1.out b2)
  clear b2
  go_wp2_with fail
  go_ret
  exact ⟨rfl, D2.out⟩

set_option maxHeartbeats 4000000 in
theorem near (l : List Bk) (p : Option Addr) (c : Nat) (n k : Int) (w : World) (hv : RA blkE w (.slice p l.length c) l) (h1 : l.length ≤ 100) (h2 : 0 < l.length) (h3 : mayL n l = true) :
    Calls Try.prog 5 #[.slice p l.length c, .int .i64 n, .int .i64 k] w fun e w' => e = .returned (.bool true) ∧ Below w.heap.size w w' := by
  have M := Lib.hid (rmay_is n l _ true w hv (by omega) h3)
  have HV := Lib.hid (fun (w' : World) (hb : Below w.heap.size w w') => ra_below hv hb)
  have i1 : ¬ (l.length : Int) > 100 := by omega
  have i2 : ((l.length : Int) == 0) = false := beq_eq_false_iff_ne.2 (by omega)
  have HS : Hid (mayL n l = true ∧ l.length ≤ 100 ∧ cntU l ≤ 100) := Lib.hid ⟨h3, h1, Nat.le_trans (cntU_le l) h1⟩
  clear hv h1 h2 h3
  go_enter Try.func5, Try.ntmps5
  go_wp2_with fail
  refine (M.out).mono ?_; rintro e w1 ⟨rfl, b1⟩
  have D1 := Lib.hid b1
  have HV1 := Lib.hid (HV.out w1 b1)
  clear b1 M HV
  go_wp2
  go_loopw [0, 2, 7, 8, 9, 10, 11, 27] (fun x0 x2 x7 x8 x9 x10 x11 i wr => ∃ (r : Nat) (lc : List Bk) (kk : Int), r ≤ 100 ∧ i = .int .i64 r ∧ x2 = .int .i64 kk ∧ Hid (RA blkE wr x0 lc ∧ mayL n lc = true ∧ lc.length ≤ 100 ∧ cntU lc + r ≤ 100 ∧ Below w.heap.size w wr)) (fun _ _ _ _ _ _ _ i _ => 100 - (intOf i).toNat)
  case atStart => exact ⟨0, l, k, by omega, rfl, rfl, Lib.hid ⟨HV1.out, HS.out.1, HS.out.2.1, HS.out.2.2, D1.out⟩⟩
  case round =>
    obtain ⟨r, lc, kk, hr, rfl, rfl, H⟩ := hrel
    obtain ⟨wo, hwo⟩ : ∃ x, x = wr := ⟨_, rfl⟩
    subst hwo
    by_cases hlt : r < 100
    · have r0 : (r : Int) < 100 := by omega
      obtain ⟨pl, cl, rfl, _, _⟩ := ra_shape H.out.1
      have HL := Lib.hid (And.intro hlt H.out.2.2.1)
      have HV2 := Lib.hid (fun (w' : World) (hb : Below wo.heap.size wo w') => ra_below H.out.1 hb)
      clear hlt hr
      go_wp2
      go_loopw [7, 8, 9, 31] (fun y7 y8 y9 i wr => ∃ j : Nat, j ≤ lc.length ∧ i = .int .i64 j ∧ Hid (Usd lc wo wr y7 j)) (fun _ _ _ i _ => lc.length - (intOf i).toNat)
      case atStart => exact ⟨0, Nat.zero_le _, rfl, Lib.hid Usd.start⟩
      case round =>
        obtain ⟨j, hj, rfl, HU⟩ := hrel
        by_cases hjt : j < lc.length
        · obtain ⟨b, off, rfl, _, hx⟩ := blk_at (HV2.out wr HU.out.up) (by omega)
          obtain ⟨hld, _, _, _, _⟩ := hx j hjt
          have i0 : (0 : Int) ≤ (j : Int) := by omega
          have k1 : (j : Int) < (lc.length : Int) := by omega
          have k2 : ¬ (j : Int) < 0 := by omega
          have k3 : IntKind.i64.wrap ((j : Int) + 1) = ((j + 1 : Nat) : Int) := by rw [show (j : Int) + 1 = ((j + 1 : Nat) : Int) by omega]; exact i64_nat _ (by have := HL.out; omega)
          have HK := Lib.hid hjt
          have HSK := Lib.hid (fun hn W (hb : Below wr.heap.size wr W) => HU.out.skip hjt hn hb)
          have HMO := Lib.hid (fun hy W (hb : Below wr.heap.size wr W) => HU.out.more hjt hy hb (by have := HL.out; omega))
          generalize lc.getD j default = y at *
          obtain ⟨a, s, u⟩ := y
          obtain ⟨W, hW, HW⟩ := blk_boxed wr ⟨a, s, u⟩
          have c2 : W.cell? ⟨wr.heap.size, 2, none⟩ = some (.bool u) := HW.out.1.c2
          have HB := Lib.hid HW.out.2
          clear hx hj hjt
          cases u
          · have HN := Lib.hid (HSK.out rfl W HB.out)
            clear HSK HMO
            go_wp2
            go_roundw
            case rel => exact ⟨j + 1, by have := HK.out; omega, by go_num, HN⟩
            case measure => have := HK.out; simp [intOf]; omega
          · obtain ⟨pre, o1, hlen, hB, hmore⟩ := HMO.out rfl W HB.out
            have O1 := Lib.hid o1
            have HB1 := Lib.hid hB
            have HM := Lib.hid hmore
            clear o1 hB hmore HSK HMO
            go_wp2_with (at_builtin; refine list_app_int (o := ⟨some 41, _, _, _, _, _⟩) rfl (.tmp 38) (.tmp 40) rfl wo.heap.size _ (ins pre) rfl O1.out _ [(j : Int)] rfl (ri_one _ _) hlen.out HB1.out ?_; intro v1 w2 hown hg _)
            have HN := Lib.hid (HM.out _ _ hown hg)
            clear hown hg
            go_wp2
            go_roundw
            case rel => exact ⟨j + 1, by have := HK.out; omega, by go_num, HN⟩
            case measure => have := HK.out; simp [intOf]; omega
        · obtain rfl : j = lc.length := by omega
          obtain ⟨pu, cu, rfl, hri⟩ := HU.out.all
          have DU := Lib.hid (below_more H.out.2.2.2.2 HU.out.up)
          have RU1 := Lib.hid hri
          have HC := Lib.hid H.out.2.2.2.1
          have HM1 := Lib.hid H.out.2.1
          clear hj hjt hri
          by_cases hc : cntU lc = 0
          · have HF : Hid (RA blkE wr (.slice pl lc.length cl) lc ∧ mayL n lc = true ∧ True ∧ True ∧ Below w.heap.size w wr) := Lib.hid ⟨HV2.out wr HU.out.up, HM1.out, trivial, trivial, DU.out⟩
            have e0 : ((cntU lc : Int) == 0) = true := by rw [hc]; rfl
            clear H HU HV2 HL HM1 HC DU RU1
            have HZ := Lib.hid hc
            rw [hc]
            obtain ⟨hra, hml, _, _, hbw⟩ := HF.out
            have hE := none_used hml HZ.out
            subst hE
            have DW := Lib.hid hbw
            obtain ⟨be, oe, rfl, _, hxe⟩ := blk_at hra (by simp)
            have lde : (blkLoad (.pointer (some ⟨be, oe, none⟩))).run Try.prog wr = .ok (.agg (bc ⟨0, n, false⟩)) wr := by
              have := (hxe 0 (by simp)).1
              simpa using this
            have q := eqB_self ⟨0, n, false⟩
            have hl1 : [(⟨0, n, false⟩ : Bk)].length = 1 := rfl
            rw [hl1]
            clear hra hml hbw hxe
            go_wp2_with fail
            refine (awake_any _).mono ?_; rintro e w9 ⟨rfl, b9⟩
            have D9 := Lib.hid (below_more DW.out b9)
            clear b9
            go_wp2_with fail
            go_ret
            exact ⟨rfl, D9.out⟩
          · obtain ⟨u1, q, t1, t2, t3, t4, hq⟩ := place_of kk (cntU lc) (by omega) (by have := cntU_le lc; have := HL.out; omega)
            obtain ⟨K, hK, hKl, hKu⟩ := usP_at hq
            obtain ⟨bu, ou, rfl, _, hxu⟩ := ri_some RU1.out (by rw [ins_length, usP_length]; omega)
            have x1 := hxu q (by rw [ins_length, usP_length]; exact hq)
            rw [hK] at x1
            have hcm : canM lc K = true := by rw [canM_at HM1.out hKl]; exact hKu
            have CB := Lib.hid (mblocks_is lc K _ wr (HV2.out wr HU.out.up) (by have := HL.out; omega) true hcm)
            have HP : Hid (mayL n (mrgF lc K) = true ∧ (mrgF lc K).length ≤ lc.length ∧ cntU (mrgF lc K) + 1 = cntU lc) := Lib.hid ⟨mayL_mrg HM1.out hcm, (mrg_length hcm).2.1, (mrg_counts hcm).1⟩
            have MP := Lib.hid (fun (v : Value) (w' : World) (h : RA blkE w' v (mrgF lc K)) => rmay_is n (mrgF lc K) v true w' h (by have := HP.out; have := HL.out; omega) HP.out.1)
            have e0 : ((cntU lc : Int) == 0) = false := beq_eq_false_iff_ne.2 (by omega)
            have e1 : ¬ (cntU lc : Int) = 0 := by omega
            have e2 : ¬ cntU lc = 0 := hc
            have e3 : ¬ (q : Int) < 0 := by omega
            have e4 : (q : Int) < (cntU lc : Int) := by omega
            have e5 : ¬ (cntU lc : Int) ≤ (q : Int) := by omega
            have e6 : ¬ ((mrgF lc K).length : Int) > (lc.length : Int) := by have := HP.out; omega
            have e7 : ¬ (lc.length : Int) < ((mrgF lc K).length : Int) := by have := HP.out; omega
            have k3 : IntKind.i64.wrap ((r : Int) + 1) = ((r + 1 : Nat) : Int) := by rw [show (r : Int) + 1 = ((r + 1 : Nat) : Int) by omega]; exact i64_nat _ (by have := HL.out; omega)
            clear hK hKl hKu hxu hcm hc hq RU1
            generalize mrgF lc K = P at *
            generalize cntU lc = C at *
            go_wp2_with fail
            refine (CB.out).mono ?_; rintro e w2 ⟨⟨v2, rfl, o2⟩, b2⟩
            have D2 := Lib.hid (below_more DU.out b2)
            have O2 := Lib.hid o2.ra
            obtain ⟨p2, c2, rfl, _, _⟩ := o2.shape
            clear b2 o2 CB x1
            go_wp2_with fail
            refine (MP.out _ _ O2.out).mono ?_; rintro e w3 ⟨rfl, b3⟩
            have D3 := Lib.hid (below_more D2.out b3)
            have O3 := Lib.hid (ra_below O2.out b3)
            clear b3 MP
            go_wp2
            go_roundw
            case rel => exact ⟨r + 1, P, _, by have := HL.out; omega, by go_num, rfl, Lib.hid ⟨O3.out, HP.out.1, by have := HP.out; have := HL.out; omega, by have := HP.out; have := HC.out; omega, D3.out⟩⟩
            case measure => have := HL.out; simp [intOf]; omega
    · obtain rfl : r = 100 := by omega
      obtain ⟨hra, hml, _, _, hbw⟩ := H.out
      have hE := none_used hml (by have := H.out; omega)
      subst hE
      have DW := Lib.hid hbw
      obtain ⟨pe, ce, rfl, _, _⟩ := ra_shape hra
      obtain ⟨be, oe, rfl, _, hxe⟩ := blk_at hra (by simp)
      have lde : (blkLoad (.pointer (some ⟨be, oe, none⟩))).run Try.prog wo = .ok (.agg (bc ⟨0, n, false⟩)) wo := by
        have := (hxe 0 (by simp)).1
        simpa using this
      have q := eqB_self ⟨0, n, false⟩
      have hl1 : [(⟨0, n, false⟩ : Bk)].length = 1 := rfl
      rw [hl1]
      clear hra hml hbw hxe
      go_wp2_with fail
      refine (awake_any _).mono ?_; rintro e w9 ⟨rfl, b9⟩
      have D9 := Lib.hid (below_more DW.out b9)
      clear b9
      go_wp2_with fail
      go_ret
      exact ⟨rfl, D9.out⟩

theorem walk (l0 : List Bk) (v0 : Value) (a1 a2 : Int) (w : World) (h0 : RA blkE w v0 l0) (_ : (Lit.int .i64 a1).wf = true) (_ : (Lit.int .i64 a2).wf = true) :
    Calls Try.prog 5 #[v0, .int .i64 a1, .int .i64 a2] w fun e w' => e = .returned (.bool true) ∧ Below w.heap.size w w' := by
  obtain ⟨p, c, rfl, _⟩ := ra_shape h0
  by_cases h : 100 < l0.length ∨ l0.length = 0 ∨ mayL a1 l0 = false
  · exact far l0 p c a1 a2 w h0 h
  · have h' := not_or.1 h
    have h'' := not_or.1 h'.2
    exact near l0 p c a1 a2 w h0 (by omega) (by omega) (by simpa using h''.2)

set_option maxRecDepth 100000 in
theorem lifted (os : Os) (started : os.Started) (H : Type) (enc : TypeId × Value → H) :
    ReturnsInHanded {} Try.checked os 5 .any (Rows.mergeAllSpec.pre6 enc Try.prog Try.f5 Rows.mergeAllRow.domain false) (Rows.mergeAllSpec.post enc Try.prog Try.f5 false true false false) := by
  refine returnsInHanded_of_change (C := Try.checked) own started (by kernel_rfl) Try.func5
    (ChangeSpec.witness6 (enc := enc) (C := Try.checked) false ⟨#[], #[.slice none 0 0, .int .i64 0, .int .i64 0], []⟩ 8 (by kernel_rfl) (by kernel_rfl) (by kernel_rfl) (by kernel_rfl)) ?_
  intro W base args ds gs before hval0 hW hcnd _
  have hval : ∀ (j : Nat) t v, Try.f5.params[j]? = some t → args[j]? = some v → Value.okWide Try.prog W .any base t v := hval0
  have hW' := hW
  have hlt := hW.lt
  obtain ⟨p, q, hA0, hV, hpq, hfz, hnd⟩ := hW
  have hA : DataW.TrodAll enc Try.prog W 0 (fun _ => true) true Try.f5.params.toList args.toList ds p := hA0
  rw [Try.params5] at hA hval
  obtain ⟨v0, vs0, d0, ds0, p0, q0, hargs, rfl, hp, h0, r0⟩ := trodAll_cons hA
  obtain ⟨v1, vs1, d1, ds1, p1, q1, rfl, rfl, rfl, h1, r1⟩ := trodAll_cons r0
  obtain ⟨v2, vs2, d2, ds2, p2, q2, rfl, rfl, rfl, h2, r2⟩ := trodAll_cons r1
  obtain ⟨rfl, rfl, rfl⟩ := trodAll_nil r2
  obtain rfl : args = #[v0, v1, v2] := by cases args; simp_all
  obtain ⟨rfl, rfl⟩ := trodVars_none hV
  have hlt' : ∀ x ∈ before, x.block < W.heap.size := fun x hx => hlt x hx
  obtain ⟨l0, w0⟩ := blocks_in (hval 0 22 v0 rfl rfl) h0
  obtain ⟨a1, rfl, rfl, rfl, w1⟩ := open_int Try.underlying3 (hval 1 3 v1 rfl rfl) h1
  obtain ⟨a2, rfl, rfl, rfl, w2⟩ := open_int Try.underlying3 (hval 2 3 v2 rfl rfl) h2
  refine (walk l0 v0 a1 a2 W w0 w1 w2).mono fun e W' ⟨he, hb⟩ => ?_
  subst he
  exact ⟨_, rfl, law_post rfl (by kernel_rfl) hW' (by rw [Try.params5]; intro t ht; simp only [List.mem_cons, List.not_mem_nil, or_false] at ht; (repeat' (first | (rcases ht with rfl | ht) | subst ht)) <;> exact ⟨by kernel_rfl, of_decide_eq_true (by kernel_rfl)⟩) rfl hb⟩

theorem over : Rows.mergeAllRow.holds Try.pinned (OpenSpec.ofChange Rows.mergeAllSpec) :=
  OpenClaim.holds_of_wide 5 Try.f5 rfl rfl rfl rfl rfl rfl rfl ⟨rfl, rfl, rfl, rfl, rfl⟩ rfl rfl rfl rfl rfl (by kernel_rfl) Try.func5 (by kernel_rfl)
    (of_decide_eq_true (by kernel_rfl)) (by unfold Func.isWrapper; first | (rw [if_pos (by decide +kernel)]; kernel_rfl) | (rw [if_neg (by decide +kernel)]; exact ⟨rfl, rfl⟩))
    (fun os started H enc _ => lifted os started H enc)

theorem proved : Rows.MergeAllSaid := over
end Go.Proofs.Ytlpbdnfecnochaa.mergeAll
