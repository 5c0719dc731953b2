/-
  A log that there isn't; what may be committed, and what not. No conditions.
-/
import Derived.Test.YtjghhcbiaklomaaMgd
namespace Go.Proofs.Ytjghhcbiaklomaa.logNil
set_option maxRecDepth 100000
open Go.Proofs.Ytjghhcbiaklomaa Go.ChangeShapes Go.WideShapes Go.ChangeAt Go.RowKit

set_option maxHeartbeats 4000000 in
theorem walk (a0 : Int) (l1 : List Hm) (v1 : Value) (w : World) (_ : (Lit.int .i64 a0).wf = true) (h1 : RA homeE w v1 l1) :
    Calls Try.prog 5 #[.int .i64 a0, v1] w fun e w' => e = .returned (.bool true) ∧ Below w.heap.size w w' := by
  obtain ⟨pv, cap, rfl, _, _⟩ := ra_shape h1
  have HV := Lib.hid h1
  clear h1
  by_cases h60 : 60 < l1.length
  · have i1 : (l1.length : Int) > 60 := by omega
    clear h60 HV
    generalize l1.length = L at *
    go_enter Try.func5, Try.ntmps5
    go_wp2_with fail
    refine (awake_any ctr _).mono ?_; rintro e w' ⟨rfl, hb⟩
    go_wp2_with fail
    go_ret
    exact ⟨rfl, hb⟩
  have i1 : ¬ (l1.length : Int) > 60 := by omega
  have LK := Lib.hid (newNv_tok (n := 16) (P := 0) (by decide) (by decide) (by decide) [])
  obtain ⟨s0, e0⟩ : ∃ s0, newNv 17 [] = s0 := ⟨_, rfl⟩
  have e0' : newNv (16 + 1 + 0) [] = s0 := e0
  rw [e0'] at LK
  clear e0'
  obtain ⟨r, hr⟩ : ∃ r : Bool, r = true ↔ MayH a0 l1 := by
    by_cases hm : MayH a0 l1
    · exact ⟨true, fun _ => hm, fun _ => rfl⟩
    · exact ⟨false, fun e => (by cases e), fun e => absurd e hm⟩
  have HR := Lib.hid hr
  clear hr h60
  go_enter Try.func5, Try.ntmps5
  go_wp2_with fail
  refine (gt_nil _ _).mono ?_; rintro e w1 ⟨rfl, hb⟩
  obtain ⟨W1, hW1, H1⟩ := boxed1 w1 (a := [0, 0, 0, 0, 0, 0, 0, 0]) rfl
  have B1 := Lib.hid (below_more hb H1.out.2)
  have L1 := Lib.hid H1.out.1
  have hst : (lineStore (.pointer (some ⟨w1.heap.size, 0, none⟩)) (.agg (lc zeros))).run Try.prog W1 = .ok () W1 := by rw [← hW1]; exact store_new w1 zeros zeros rfl rfl
  clear hb
  go_wp2_with fail
  refine (new_yes 30 _ [] _ (by decide) (by decide) (ri_nil _)).mono ?_; rintro e w2 ⟨g, rfl, hg, hN, hb⟩
  have B2 := Lib.hid (below_more B1.out hb)
  have V2 := Lib.hid (ra_below HV.out B2.out)
  have l2 := (L1.out.below hb).load
  have CC := Lib.hid (cmt_nil (w := w2) V2.out)
  clear hN hg hb
  go_wp2_with fail
  refine (CC.out).mono ?_; rintro e w3 ⟨rfl, hb⟩
  have B3 := Lib.hid (below_more B2.out hb)
  have V3 := Lib.hid (ra_below HV.out B3.out)
  have MC := Lib.hid (may_is a0 _ l1 r w3 V3.out HR.out)
  clear hb l2
  go_wp2_with fail
  refine (rcv_nil _).mono ?_; rintro e w' ⟨rfl, rfl⟩
  go_wp2_with fail
  refine (pd_nil _).mono ?_; rintro e w' ⟨rfl, rfl⟩
  go_wp2_with fail
  refine (MC.out).mono ?_; rintro e w4 ⟨rfl, hb⟩
  have B4 := Lib.hid (below_more B3.out hb)
  have V4 := Lib.hid (ra_below HV.out B4.out)
  have MD := Lib.hid (rmayh_some a0 l1 _ r w4 V4.out HR.out)
  clear hb
  go_wp2_with fail
  refine (MD.out).mono ?_; rintro e w5 ⟨rfl, hb⟩
  have B5 := Lib.hid (below_more B4.out hb)
  have rr : (r == r) = true := beq_self_eq_true r
  clear hb
  go_wp2_with fail
  refine (lg_new_nil _ _).mono ?_; rintro e w6 ⟨rfl, hb⟩
  have B6 := Lib.hid (below_more B5.out hb)
  clear hb
  go_wp2_with fail
  refine (new_yes 17 _ [] _ (by decide) (by decide) (ri_nil _)).mono ?_; rintro e w7 ⟨g2, rfl, hg, hN, hb⟩
  rw [e0] at hN
  have N7 := Lib.hid hN
  have B7 := Lib.hid (below_more B6.out hb)
  clear hN hg hb
  go_wp2_with fail
  refine (tnew_yes (per := 1) LK.out (by decide) (by decide) (by decide) (by decide) (by decide) N7.out).mono ?_; rintro e w8 ⟨x, q, rfl, _, _, _, hQ, hT, hb⟩
  have B8 := Lib.hid (below_more B7.out hb)
  have NC := Lib.hid (lg_new_few hT (by decide) g)
  clear hb hQ hT
  go_wp2_with fail
  refine (NC.out).mono ?_; rintro e w9 ⟨rfl, hb⟩
  have B9 := Lib.hid (below_more B8.out hb)
  clear hb
  go_wp2_with fail
  refine (awake_any ctr _).mono ?_; rintro e w7 ⟨rfl, hb⟩
  have BA := Lib.hid (below_more B9.out hb)
  go_wp2
  go_ret
  exact ⟨rfl, BA.out⟩

set_option maxRecDepth 100000 in
theorem lifted (os : Os) (started : os.Started) (H : Type) (enc : TypeId × Value → H) :
    ReturnsInHanded {} Try.checked os 5 .any (Rows.logNilSpec.pre6 enc Try.prog Try.f5 Rows.logNilRow.domain false) (Rows.logNilSpec.post enc Try.prog Try.f5 false true false false) := by
  refine returnsInHanded_of_change (C := Try.checked) own started (by kernel_rfl) Try.func5
    (ChangeSpec.witness6 (enc := enc) (C := Try.checked) false ⟨#[], #[.int .i64 0, .slice none 0 0], []⟩ 8 (by kernel_rfl) (by kernel_rfl) (by kernel_rfl) (by kernel_rfl)) ?_
  intro W base args ds gs before hval0 hW hcnd _
  have hval : ∀ (j : Nat) t v, Try.f5.params[j]? = some t → args[j]? = some v → Value.okWide Try.prog W .any base t v := hval0
  have hW' := hW
  have hlt := hW.lt
  obtain ⟨p, q, hA0, hV, hpq, hfz, hnd⟩ := hW
  have hA : DataW.TrodAll enc Try.prog W 0 (fun _ => true) true Try.f5.params.toList args.toList ds p := hA0
  rw [Try.params5] at hA hval
  obtain ⟨v0, vs0, d0, ds0, p0, q0, hargs, rfl, hp, h0, r0⟩ := trodAll_cons hA
  obtain ⟨v1, vs1, d1, ds1, p1, q1, rfl, rfl, rfl, h1, r1⟩ := trodAll_cons r0
  obtain ⟨rfl, rfl, rfl⟩ := trodAll_nil r1
  obtain rfl : args = #[v0, v1] := by cases args; simp_all
  obtain ⟨rfl, rfl⟩ := trodVars_none hV
  have hlt' : ∀ x ∈ before, x.block < W.heap.size := fun x hx => hlt x hx
  obtain ⟨a0, rfl, rfl, rfl, w0⟩ := open_int Try.underlying3 (hval 0 3 v0 rfl rfl) h0
  obtain ⟨l1, w1⟩ := homes_in (hval 1 33 v1 rfl rfl) h1
  refine (walk a0 l1 v1 W w0 w1).mono fun e W' ⟨he, hb⟩ => ?_
  subst he
  exact ⟨_, rfl, law_post rfl (by kernel_rfl) hW' (by rw [Try.params5]; intro t ht; simp only [List.mem_cons, List.not_mem_nil, or_false] at ht; (repeat' (first | (rcases ht with rfl | ht) | subst ht)) <;> exact ⟨by kernel_rfl, of_decide_eq_true (by kernel_rfl)⟩) rfl hb⟩

theorem over : Rows.logNilRow.holds Try.pinned (OpenSpec.ofChange Rows.logNilSpec) :=
  OpenClaim.holds_of_wide 5 Try.f5 rfl rfl rfl rfl rfl rfl rfl ⟨rfl, rfl, rfl, rfl, rfl⟩ rfl rfl rfl rfl rfl (by kernel_rfl) Try.func5 (by kernel_rfl)
    (of_decide_eq_true (by kernel_rfl)) (by unfold Func.isWrapper; first | (rw [if_pos (by decide +kernel)]; kernel_rfl) | (rw [if_neg (by decide +kernel)]; exact ⟨rfl, rfl⟩))
    (fun os started H enc _ => lifted os started H enc)

theorem proved : Rows.LogNilSaid := over
end Go.Proofs.Ytjghhcbiaklomaa.logNil
