/-
  Any operation, any number, any plan: package cost tells what the document's reference tells. No conditions.
-/
import Derived.Test.YtegbeolnlpgdeaaCow
import Derived.Deep.RegionHeld3
namespace Go.Proofs.Ytegbeolnlpgdeaa.costForms
set_option maxRecDepth 100000
open Go.Proofs.Ytegbeolnlpgdeaa Go.ChangeShapes Go.WideShapes Go.ChangeAt Go.RowKit

theorem long (d o n m : Int) (q : Option Addr) (k c : Nat) (bl : List Int) (r l s p b : Int) (w : World) (h : 1000 < k) :
    Calls Try.prog 3 #[.agg (pxc ⟨d, o, n, m, .slice q k c, bl⟩), .int .i64 r, (Value.agg #[Value.int IntKind.i64 l, Value.int IntKind.i64 s, Value.int IntKind.i64 p, Value.int IntKind.i64 b])] w fun e w' => e = .returned (.bool true) ∧ Below w.heap.size w w' := by
  obtain ⟨W, hW⟩ : ∃ W, w.alloc (.cells (pxc ⟨d, o, n, m, .slice q k c, bl⟩) 24) = W := ⟨_, rfl⟩
  have V := Pxv.new w ⟨d, o, n, m, .slice q k c, bl⟩
  have B0 := bal (o := .cells (pxc ⟨d, o, n, m, .slice q k c, bl⟩) 24) (Below.refl w.heap.size w)
  rw [hW] at V B0
  obtain ⟨W2, hW2, H⟩ := plan_boxed W l s p b
  have c4 := (V.below H.out.2).c4
  dsimp only at c4
  have HB := Lib.hid (below_more B0 H.out.2)
  have i1 : (1000 : Int) < (k : Int) := by omega
  clear V B0 H
  go_enter Try.func3, Try.ntmps3
  go_wp2_with fail
  refine (awake_any _).mono ?_; rintro e w5 ⟨rfl, hb⟩
  go_wp2_with fail
  go_ret
  exact ⟨rfl, below_more HB.out hb⟩

set_option maxHeartbeats 4000000 in
theorem short_yes (d o n m : Int) (q : Option Addr) (k c : Nat) (bl : List Int) (r l s p b : Int) (w : World) (h : k ≤ 1000) (hm : May l s p b) :
    Calls Try.prog 3 #[.agg (pxc ⟨d, o, n, m, .slice q k c, bl⟩), .int .i64 r, (Value.agg #[Value.int IntKind.i64 l, Value.int IntKind.i64 s, Value.int IntKind.i64 p, Value.int IntKind.i64 b])] w fun e w' => e = .returned (.bool true) ∧ Below w.heap.size w w' := by
  obtain ⟨W, hW⟩ : ∃ W, w.alloc (.cells (pxc ⟨d, o, n, m, .slice q k c, bl⟩) 24) = W := ⟨_, rfl⟩
  have V := Pxv.new w ⟨d, o, n, m, .slice q k c, bl⟩
  have B0 := bal (o := .cells (pxc ⟨d, o, n, m, .slice q k c, bl⟩) 24) (Below.refl w.heap.size w)
  rw [hW] at V B0
  obtain ⟨W2, hW2, H⟩ := plan_boxed W l s p b
  have V2 := Lib.hid (V.below H.out.2)
  have c4 := V2.out.c4
  dsimp only at c4
  have l1 := H.out.1.load
  have HP := Lib.hid H.out.1
  have HB := Lib.hid (below_more B0 H.out.2)
  have i1 : ¬ (1000 : Int) < (k : Int) := by omega
  obtain ⟨x1, e1⟩ : ∃ x, lnC d n k = x := ⟨_, rfl⟩
  obtain ⟨x2, e2⟩ : ∃ x, opC d n k r = x := ⟨_, rfl⟩
  obtain ⟨x3, e3⟩ : ∃ x, recC r = x := ⟨_, rfl⟩
  have D1 := Lib.hid (fun w => clines_w d o n m q k c bl x1 e1 w)
  have D2 := Lib.hid (fun w => (rclines_is d o n m q k c bl w))
  have D3 := Lib.hid (fun w => cop_w d o n m q k c bl r x2 e2 w)
  have D4 := Lib.hid (fun w => (rcop_is d o n m q k c bl r w))
  have D5 := Lib.hid (fun w => crec_w r x3 e3 w)
  have D6 := Lib.hid (fun w => rcrec_is r w)
  rw [e1] at D2
  rw [e2] at D4
  rw [e3] at D6
  have D7 := Lib.hid (cfmt_yes hm)
  have D8 := Lib.hid (rmay_yes hm)
  clear V B0 H e1 e2 e3 hm h
  go_enter Try.func3, Try.ntmps3
  go_wp2_with fail
  refine (D8.out _).mono ?_; rintro e w1 ⟨rfl, hb⟩
  have B1 := Lib.hid (below_more HB.out hb)
  have r0 : ∀ w' : World, Below w1.heap.size w1 w' → (pxLoad (.pointer (some ⟨w.heap.size, 0, none⟩))).run Try.prog w' = .ok (.agg (pxc ⟨d, o, n, m, .slice q k c, bl⟩)) w' := fun w' hb2 => ((V2.out.below hb).below hb2).whole
  have r1 := (HP.out.below hb).later
  clear hb l1 c4
  go_wp2
  go_region_held3 (fun w' => Below w1.heap.size w1 w')
    (first | assumption | exact (Below.refl _ _).drew | exact below_more ‹Below w1.heap.size w1 _› hbq)
    (first
      | (go_at_call 9; refine (D1.out _).mono ?_; rintro e wq ⟨rfl, hbq⟩)
      | (go_at_call 10; refine (D2.out _).mono ?_; rintro e wq ⟨rfl, hbq⟩)
      | (go_at_call 11; refine (D3.out _).mono ?_; rintro e wq ⟨rfl, hbq⟩)
      | (go_at_call 12; refine (D4.out _).mono ?_; rintro e wq ⟨rfl, hbq⟩)
      | (go_at_call 13; refine (D5.out _).mono ?_; rintro e wq ⟨rfl, rfl⟩)
      | (go_at_call 14; refine (D6.out _).mono ?_; rintro e wq ⟨rfl, rfl⟩)
      | (go_at_call 15; refine (D7.out _).mono ?_; rintro e wq ⟨rfl, hbq⟩)
      | (go_at_call 7; refine (awake_any _).mono ?_; rintro e wq ⟨rfl, hbq⟩))
  have HB2 := Lib.hid (below_more B1.out ‹Below w1.heap.size w1 wq›)
  go_wp2
  go_ret
  exact ⟨rfl, HB2.out⟩
theorem short_no (d o n m : Int) (q : Option Addr) (k c : Nat) (bl : List Int) (r l s p b : Int) (w : World) (h : k ≤ 1000) (hm : ¬May l s p b) :
    Calls Try.prog 3 #[.agg (pxc ⟨d, o, n, m, .slice q k c, bl⟩), .int .i64 r, (Value.agg #[Value.int IntKind.i64 l, Value.int IntKind.i64 s, Value.int IntKind.i64 p, Value.int IntKind.i64 b])] w fun e w' => e = .returned (.bool true) ∧ Below w.heap.size w w' := by
  obtain ⟨W, hW⟩ : ∃ W, w.alloc (.cells (pxc ⟨d, o, n, m, .slice q k c, bl⟩) 24) = W := ⟨_, rfl⟩
  have V := Pxv.new w ⟨d, o, n, m, .slice q k c, bl⟩
  have B0 := bal (o := .cells (pxc ⟨d, o, n, m, .slice q k c, bl⟩) 24) (Below.refl w.heap.size w)
  rw [hW] at V B0
  obtain ⟨W2, hW2, H⟩ := plan_boxed W l s p b
  have V2 := Lib.hid (V.below H.out.2)
  have c4 := V2.out.c4
  dsimp only at c4
  have l1 := H.out.1.load
  have HP := Lib.hid H.out.1
  have HB := Lib.hid (below_more B0 H.out.2)
  have i1 : ¬ (1000 : Int) < (k : Int) := by omega
  obtain ⟨x1, e1⟩ : ∃ x, lnC d n k = x := ⟨_, rfl⟩
  obtain ⟨x2, e2⟩ : ∃ x, opC d n k r = x := ⟨_, rfl⟩
  obtain ⟨x3, e3⟩ : ∃ x, recC r = x := ⟨_, rfl⟩
  have D1 := Lib.hid (fun w => clines_w d o n m q k c bl x1 e1 w)
  have D2 := Lib.hid (fun w => (rclines_is d o n m q k c bl w))
  have D3 := Lib.hid (fun w => cop_w d o n m q k c bl r x2 e2 w)
  have D4 := Lib.hid (fun w => (rcop_is d o n m q k c bl r w))
  have D5 := Lib.hid (fun w => crec_w r x3 e3 w)
  have D6 := Lib.hid (fun w => rcrec_is r w)
  rw [e1] at D2
  rw [e2] at D4
  rw [e3] at D6
  have D7 := Lib.hid (cfmt_no hm)
  have D8 := Lib.hid (rmay_no hm)
  clear V B0 H e1 e2 e3 hm h
  go_enter Try.func3, Try.ntmps3
  go_wp2_with fail
  refine (D8.out _).mono ?_; rintro e w1 ⟨rfl, hb⟩
  have B1 := Lib.hid (below_more HB.out hb)
  have r0 : ∀ w' : World, Below w1.heap.size w1 w' → (pxLoad (.pointer (some ⟨w.heap.size, 0, none⟩))).run Try.prog w' = .ok (.agg (pxc ⟨d, o, n, m, .slice q k c, bl⟩)) w' := fun w' hb2 => ((V2.out.below hb).below hb2).whole
  have r1 := (HP.out.below hb).later
  clear hb l1 c4
  go_wp2
  go_region_held3 (fun w' => Below w1.heap.size w1 w')
    (first | assumption | exact (Below.refl _ _).drew | exact below_more ‹Below w1.heap.size w1 _› hbq)
    (first
      | (go_at_call 9; refine (D1.out _).mono ?_; rintro e wq ⟨rfl, hbq⟩)
      | (go_at_call 10; refine (D2.out _).mono ?_; rintro e wq ⟨rfl, hbq⟩)
      | (go_at_call 11; refine (D3.out _).mono ?_; rintro e wq ⟨rfl, hbq⟩)
      | (go_at_call 12; refine (D4.out _).mono ?_; rintro e wq ⟨rfl, hbq⟩)
      | (go_at_call 13; refine (D5.out _).mono ?_; rintro e wq ⟨rfl, rfl⟩)
      | (go_at_call 14; refine (D6.out _).mono ?_; rintro e wq ⟨rfl, rfl⟩)
      | (go_at_call 15; refine (D7.out _).mono ?_; rintro e wq ⟨rfl, hbq⟩)
      | (go_at_call 7; refine (awake_any _).mono ?_; rintro e wq ⟨rfl, hbq⟩))
  have HB2 := Lib.hid (below_more B1.out ‹Below w1.heap.size w1 wq›)
  go_wp2
  go_ret
  exact ⟨rfl, HB2.out⟩

theorem walk (c0 : Px) (a1 : Int) (c2 e2 g2 k2 : Int) (w : World) (w0 : c0.Wf w) (_ : (Lit.int .i64 a1).wf = true) (_ : ((Lit.int .i64 c2).wf = true ∧ (Lit.int .i64 e2).wf = true ∧ (Lit.int .i64 g2).wf = true ∧ (Lit.int .i64 k2).wf = true)) :
    Calls Try.prog 3 #[.agg (pxc c0), .int .i64 a1, (Value.agg #[Value.int IntKind.i64 c2, Value.int IntKind.i64 e2, Value.int IntKind.i64 g2, Value.int IntKind.i64 k2])] w fun e w' => e = .returned (.bool true) ∧ Below w.heap.size w w' := by
  obtain ⟨p, c, hv, _⟩ := ra_shape w0.rv
  obtain ⟨d, o, n, m, v, bl⟩ := c0
  dsimp only at hv
  subst hv
  by_cases h : bl.length ≤ 1000
  · by_cases hm : May c2 e2 g2 k2
    · exact short_yes d o n m p bl.length c bl a1 c2 e2 g2 k2 w h hm
    · exact short_no d o n m p bl.length c bl a1 c2 e2 g2 k2 w h hm
  · exact long d o n m p bl.length c bl a1 c2 e2 g2 k2 w (by omega)

set_option maxRecDepth 100000 in
theorem lifted (os : Os) (started : os.Started) (H : Type) (enc : TypeId × Value → H) :
    ReturnsInHanded {} Try.checked os 3 .any (Rows.costFormsSpec.pre6 enc Try.prog Try.f3 Rows.costFormsRow.domain false) (Rows.costFormsSpec.post enc Try.prog Try.f3 false true false false) := by
  refine returnsInHanded_of_change (C := Try.checked) own started (by kernel_rfl) Try.func3
    (ChangeSpec.witness6 (enc := enc) (C := Try.checked) false ⟨#[], #[.agg #[.int .i64 0, .int .i64 0, .int .i64 0, .int .i64 0, .slice none 0 0], .int .i64 0, .agg #[.int .i64 0, .int .i64 0, .int .i64 0, .int .i64 0]], []⟩ 8 (by kernel_rfl) (by kernel_rfl) (by kernel_rfl) (by kernel_rfl)) ?_
  intro W base args ds gs before hval0 hW hcnd _
  have hval : ∀ (j : Nat) t v, Try.f3.params[j]? = some t → args[j]? = some v → Value.okWide Try.prog W .any base t v := hval0
  have hW' := hW
  have hlt := hW.lt
  obtain ⟨p, q, hA0, hV, hpq, hfz, hnd⟩ := hW
  have hA : DataW.TrodAll enc Try.prog W 0 (fun _ => true) true Try.f3.params.toList args.toList ds p := hA0
  rw [Try.params3] at hA hval
  obtain ⟨v0, vs0, d0, ds0, p0, q0, hargs, rfl, hp, h0, r0⟩ := trodAll_cons hA
  obtain ⟨v1, vs1, d1, ds1, p1, q1, rfl, rfl, rfl, h1, r1⟩ := trodAll_cons r0
  obtain ⟨v2, vs2, d2, ds2, p2, q2, rfl, rfl, rfl, h2, r2⟩ := trodAll_cons r1
  obtain ⟨rfl, rfl, rfl⟩ := trodAll_nil r2
  obtain rfl : args = #[v0, v1, v2] := by cases args; simp_all
  obtain ⟨rfl, rfl⟩ := trodVars_none hV
  have hlt' : ∀ x ∈ before, x.block < W.heap.size := fun x hx => hlt x hx
  obtain ⟨c0, rfl, w0⟩ := hop_in (hval 0 24 v0 rfl rfl) h0
  obtain ⟨a1, rfl, rfl, rfl, w1⟩ := open_int Try.underlying3 (hval 1 3 v1 rfl rfl) h1
  obtain ⟨c2, e2, g2, k2, rfl, w2⟩ := plan_in (hval 2 26 v2 rfl rfl) h2
  refine (walk c0 a1 c2 e2 g2 k2 W w0 w1 w2).mono fun e W' ⟨he, hb⟩ => ?_
  subst he
  exact ⟨_, rfl, law_post rfl (by kernel_rfl) hW' (by rw [Try.params3]; intro t ht; simp only [List.mem_cons, List.not_mem_nil, or_false] at ht; (repeat' (first | (rcases ht with rfl | ht) | subst ht)) <;> exact ⟨by kernel_rfl, of_decide_eq_true (by kernel_rfl)⟩) rfl hb⟩

theorem over : Rows.costFormsRow.holds Try.pinned (OpenSpec.ofChange Rows.costFormsSpec) :=
  OpenClaim.holds_of_wide 3 Try.f3 rfl rfl rfl rfl rfl rfl rfl ⟨rfl, rfl, rfl, rfl, rfl⟩ rfl rfl rfl rfl rfl (by kernel_rfl) Try.func3 (by kernel_rfl)
    (of_decide_eq_true (by kernel_rfl)) (by unfold Func.isWrapper; first | (rw [if_pos (by decide +kernel)]; kernel_rfl) | (rw [if_neg (by decide +kernel)]; exact ⟨rfl, rfl⟩))
    (fun os started H enc _ => lifted os started H enc)

theorem proved : Rows.CostFormsSaid := over
end Go.Proofs.Ytegbeolnlpgdeaa.costForms
