/-
  Any plan, any line: package plan answers as the document's reference does. No conditions.
-/
import Derived.Test.YtojblhgdnolcdaaPlw
namespace Go.Proofs.Ytojblhgdnolcdaa.planForms
open Go.Proofs.Ytojblhgdnolcdaa Go.ChangeShapes Go.WideShapes Go.ChangeAt Go.RowKit


set_option maxHeartbeats 2000000 in
theorem out_ (l s p b i : Int) (w : World) (h : ¬ May l s p b) :
    Calls Try.prog 3 #[(Value.agg #[Value.int IntKind.i64 l, Value.int IntKind.i64 s, Value.int IntKind.i64 p, Value.int IntKind.i64 b]), .int .i64 i] w fun e w' => e = .returned (.bool true) ∧ Below w.heap.size w w' := by
  obtain ⟨W, hW, H⟩ := plan_boxed w l s p b
  have l0 := H.out.1.load
  go_enter Try.func3, Try.ntmps3
  go_wp2_with fail
  refine (rmay_no h _).mono ?_; rintro e w1 ⟨rfl, hb⟩
  have B1 := Lib.hid (below_more H.out.2 hb)
  have L := Lib.hid (H.out.1.below hb)
  have r0 := L.out.later
  clear hb l0
  obtain ⟨Z, hZ⟩ : ∃ Z : Int, 0 = Z := ⟨_, rfl⟩
  obtain ⟨M, hM⟩ : ∃ M : Int, -1 = M := ⟨_, rfl⟩
  have D1 := Lib.hid (pmay_no h); have D2 := Lib.hid (words_none h hZ); have D3 := Lib.hid (pages_none h hZ); have D4 := Lib.hid (rpages_none h hZ)
  have D5 := Lib.hid (logical_none h hZ); have D6 := Lib.hid (device_none h hZ); have D7 := Lib.hid (rdevice_none h hZ); have D8 := Lib.hid (home_none (i := i) h hM)
  have z0 : (Z == 0) = true := by simp [← hZ]
  have m0 : (M == -1) = true := by simp [← hM]
  have z1 : Z = 0 := hZ.symm
  have m1 : M = -1 := hM.symm
  clear hZ hM h z1 m1
  go_wp2
  go_region_held3 (fun w' => Below w1.heap.size w1 w')
    (first | exact (Below.refl _ _).drew | exact below_more ‹Below w1.heap.size w1 _› hbq)
    (first
      | (go_at_call 8; refine (D1.out _).mono ?_; rintro e wq ⟨rfl, hbq⟩)
      | (go_at_call 9; refine (D2.out _).mono ?_; rintro e wq ⟨rfl, hbq⟩)
      | (go_at_call 10; refine (D3.out _).mono ?_; rintro e wq ⟨rfl, hbq⟩)
      | (go_at_call 11; refine (D4.out _).mono ?_; rintro e wq ⟨rfl, hbq⟩)
      | (go_at_call 12; refine (D5.out _).mono ?_; rintro e wq ⟨rfl, hbq⟩)
      | (go_at_call 13; refine (D6.out _).mono ?_; rintro e wq ⟨rfl, hbq⟩)
      | (go_at_call 14; refine (D7.out _).mono ?_; rintro e wq ⟨rfl, hbq⟩)
      | (go_at_call 15; refine (D8.out _).mono ?_; rintro e wq ⟨rfl, hbq⟩)
      | (go_at_call 16; refine (awake_any _).mono ?_; rintro e wq ⟨rfl, hbq⟩))
  have HB := Lib.hid (below_more B1.out ‹Below w1.heap.size w1 wq›)
  go_wp2
  go_ret
  exact ⟨rfl, HB.out⟩

set_option maxHeartbeats 2000000 in
theorem in_ (l s p b i : Int) (w : World) (h : May l s p b) :
    Calls Try.prog 3 #[(Value.agg #[Value.int IntKind.i64 l, Value.int IntKind.i64 s, Value.int IntKind.i64 p, Value.int IntKind.i64 b]), .int .i64 i] w fun e w' => e = .returned (.bool true) ∧ Below w.heap.size w w' := by
  obtain ⟨W, hW, H⟩ := plan_boxed w l s p b
  have l0 := H.out.1.load
  obtain ⟨v1, e1⟩ : ∃ v, wdM l = v := ⟨_, rfl⟩
  obtain ⟨v2, e2⟩ : ∃ v, pgM l = v := ⟨_, rfl⟩
  obtain ⟨v3, e3⟩ : ∃ v, lgM l = v := ⟨_, rfl⟩
  obtain ⟨v4, e4⟩ : ∃ v, dvM l s = v := ⟨_, rfl⟩
  obtain ⟨v5, e5⟩ : ∃ v, hmM l i = v := ⟨_, rfl⟩
  have k1 : IntKind.i64.wrap (l * 8) = v1 := by rw [← e1]; unfold wdM; exact IntWalk.i64_in _ (by unfold May at h; omega)
  have k3 : IntKind.i64.wrap (16 + l) = v3 := by rw [← e3]; unfold lgM; exact IntWalk.i64_in _ (by unfold May at h; omega)
  have D1 := Lib.hid (pmay_yes h); have D2 := Lib.hid (words_any h e1); have D3 := Lib.hid (pages_any h e2); have D4 := Lib.hid (rpages_any h e2)
  have D5 := Lib.hid (logical_any h e3); have D6 := Lib.hid (device_any h e4); have D7 := Lib.hid (rdevice_any h e4); have D8 := Lib.hid (home_any h e5)
  have D0 := Lib.hid (rmay_yes h W)
  by_cases hi : 0 ≤ i ∧ i < l
  · obtain ⟨i1, i2⟩ := hi
    have i3 : i ≥ 0 := i1
    have k4 : IntKind.i64.wrap (16 + i) = v5 := by rw [← e5]; unfold hmM; rw [if_pos ⟨i1, i2⟩]; exact IntWalk.i64_in _ (by unfold May at h; omega)
    clear e1 e2 e3 e4 e5 h
    go_enter Try.func3, Try.ntmps3
    go_wp2_with fail
    refine (D0.out).mono ?_; rintro e w1 ⟨rfl, hb⟩
    have B1 := Lib.hid (below_more H.out.2 hb)
    have L := Lib.hid (H.out.1.below hb)
    have r0 := L.out.later
    have r1 := L.out.later0
    have c0 := L.out.c0
    clear hb l0
    go_wp2_with fail
    go_quiet (fail)
    go_wp2_with fail
    obtain ⟨V, hV⟩ : ∃ V, V = w1.drewN nq := ⟨_, rfl⟩
    have B2 := Lib.hid (show Below w.heap.size w V by rw [hV]; exact below_drewN B1.out nq)
    have r2 : ∀ w' : World, Below V.heap.size V w' → (planLoad (.pointer (some ⟨w.heap.size, 0, none⟩))).run Try.prog w' = .ok (Value.agg #[Value.int IntKind.i64 l, Value.int IntKind.i64 s, Value.int IntKind.i64 p, Value.int IntKind.i64 b]) w' := by rw [hV]; exact fun w' hb => r0 w' ((below_drewN (Below.refl _ _) nq).trans hb)
    rw [← hV]
    clear hV r0 c0 k1 k3 k4 i1 i2 i3
    go_wp2_with fail
    go_region_held3 (fun w' => Below V.heap.size V w')
      (first | exact (Below.refl _ _).drew | exact below_more ‹Below V.heap.size V _› hbq)
      (first
        | (go_at_call 8; refine (D1.out _).mono ?_; rintro e wq ⟨rfl, hbq⟩)
        | (go_at_call 9; refine (D2.out _).mono ?_; rintro e wq ⟨rfl, hbq⟩)
        | (go_at_call 10; refine (D3.out _).mono ?_; rintro e wq ⟨rfl, hbq⟩)
        | (go_at_call 11; refine (D4.out _).mono ?_; rintro e wq ⟨rfl, hbq⟩)
        | (go_at_call 12; refine (D5.out _).mono ?_; rintro e wq ⟨rfl, hbq⟩)
        | (go_at_call 13; refine (D6.out _).mono ?_; rintro e wq ⟨rfl, hbq⟩)
        | (go_at_call 14; refine (D7.out _).mono ?_; rintro e wq ⟨rfl, hbq⟩)
        | (go_at_call 15; refine (D8.out _).mono ?_; rintro e wq ⟨rfl, hbq⟩)
        | (go_at_call 16; refine (awake_any _).mono ?_; rintro e wq ⟨rfl, hbq⟩))
    have HB := Lib.hid (below_more B2.out ‹Below V.heap.size V wq›)
    go_wp2
    go_ret
    exact ⟨rfl, HB.out⟩
  · have k4 : -1 = v5 := by rw [← e5]; unfold hmM; rw [if_neg hi]
    obtain rfl := k4
    by_cases i1 : 0 ≤ i
    · have i2 : ¬ i < l := by omega
      have i3 : i ≥ 0 := i1
      clear e1 e2 e3 e4 e5 h
      go_enter Try.func3, Try.ntmps3
      go_wp2_with fail
      refine (D0.out).mono ?_; rintro e w1 ⟨rfl, hb⟩
      have B1 := Lib.hid (below_more H.out.2 hb)
      have L := Lib.hid (H.out.1.below hb)
      have r0 := L.out.later
      have r1 := L.out.later0
      have c0 := L.out.c0
      clear hb l0
      go_wp2_with fail
      go_quiet (fail)
      go_wp2_with fail
      obtain ⟨V, hV⟩ : ∃ V, V = w1.drewN nq := ⟨_, rfl⟩
      have B2 := Lib.hid (show Below w.heap.size w V by rw [hV]; exact below_drewN B1.out nq)
      have r2 : ∀ w' : World, Below V.heap.size V w' → (planLoad (.pointer (some ⟨w.heap.size, 0, none⟩))).run Try.prog w' = .ok (Value.agg #[Value.int IntKind.i64 l, Value.int IntKind.i64 s, Value.int IntKind.i64 p, Value.int IntKind.i64 b]) w' := by rw [hV]; exact fun w' hb => r0 w' ((below_drewN (Below.refl _ _) nq).trans hb)
      rw [← hV]
      clear hV r0 c0 k1 k3 i1 i2 i3
      go_wp2_with fail
      go_region_held3 (fun w' => Below V.heap.size V w')
        (first | exact (Below.refl _ _).drew | exact below_more ‹Below V.heap.size V _› hbq)
        (first
          | (go_at_call 8; refine (D1.out _).mono ?_; rintro e wq ⟨rfl, hbq⟩)
          | (go_at_call 9; refine (D2.out _).mono ?_; rintro e wq ⟨rfl, hbq⟩)
          | (go_at_call 10; refine (D3.out _).mono ?_; rintro e wq ⟨rfl, hbq⟩)
          | (go_at_call 11; refine (D4.out _).mono ?_; rintro e wq ⟨rfl, hbq⟩)
          | (go_at_call 12; refine (D5.out _).mono ?_; rintro e wq ⟨rfl, hbq⟩)
          | (go_at_call 13; refine (D6.out _).mono ?_; rintro e wq ⟨rfl, hbq⟩)
          | (go_at_call 14; refine (D7.out _).mono ?_; rintro e wq ⟨rfl, hbq⟩)
          | (go_at_call 15; refine (D8.out _).mono ?_; rintro e wq ⟨rfl, hbq⟩)
          | (go_at_call 16; refine (awake_any _).mono ?_; rintro e wq ⟨rfl, hbq⟩))
      have HB := Lib.hid (below_more B2.out ‹Below V.heap.size V wq›)
      go_wp2
      go_ret
      exact ⟨rfl, HB.out⟩
    · have i3 : ¬ i ≥ 0 := i1
      clear e1 e2 e3 e4 e5 h
      go_enter Try.func3, Try.ntmps3
      go_wp2_with fail
      refine (D0.out).mono ?_; rintro e w1 ⟨rfl, hb⟩
      have B1 := Lib.hid (below_more H.out.2 hb)
      have L := Lib.hid (H.out.1.below hb)
      have r0 := L.out.later
      have r1 := L.out.later0
      have c0 := L.out.c0
      clear hb l0
      go_wp2_with fail
      go_quiet (fail)
      go_wp2_with fail
      obtain ⟨V, hV⟩ : ∃ V, V = w1.drewN nq := ⟨_, rfl⟩
      have B2 := Lib.hid (show Below w.heap.size w V by rw [hV]; exact below_drewN B1.out nq)
      have r2 : ∀ w' : World, Below V.heap.size V w' → (planLoad (.pointer (some ⟨w.heap.size, 0, none⟩))).run Try.prog w' = .ok (Value.agg #[Value.int IntKind.i64 l, Value.int IntKind.i64 s, Value.int IntKind.i64 p, Value.int IntKind.i64 b]) w' := by rw [hV]; exact fun w' hb => r0 w' ((below_drewN (Below.refl _ _) nq).trans hb)
      rw [← hV]
      clear hV r0 c0 k1 k3 i1 i3
      go_wp2_with fail
      go_region_held3 (fun w' => Below V.heap.size V w')
        (first | exact (Below.refl _ _).drew | exact below_more ‹Below V.heap.size V _› hbq)
        (first
          | (go_at_call 8; refine (D1.out _).mono ?_; rintro e wq ⟨rfl, hbq⟩)
          | (go_at_call 9; refine (D2.out _).mono ?_; rintro e wq ⟨rfl, hbq⟩)
          | (go_at_call 10; refine (D3.out _).mono ?_; rintro e wq ⟨rfl, hbq⟩)
          | (go_at_call 11; refine (D4.out _).mono ?_; rintro e wq ⟨rfl, hbq⟩)
          | (go_at_call 12; refine (D5.out _).mono ?_; rintro e wq ⟨rfl, hbq⟩)
          | (go_at_call 13; refine (D6.out _).mono ?_; rintro e wq ⟨rfl, hbq⟩)
          | (go_at_call 14; refine (D7.out _).mono ?_; rintro e wq ⟨rfl, hbq⟩)
          | (go_at_call 15; refine (D8.out _).mono ?_; rintro e wq ⟨rfl, hbq⟩)
          | (go_at_call 16; refine (awake_any _).mono ?_; rintro e wq ⟨rfl, hbq⟩))
      have HB := Lib.hid (below_more B2.out ‹Below V.heap.size V wq›)
      go_wp2
      go_ret
      exact ⟨rfl, HB.out⟩

theorem walk (l s p b i : Int) (w : World) (_ : (Lit.int .i64 l).wf = true ∧ (Lit.int .i64 s).wf = true ∧ (Lit.int .i64 p).wf = true ∧ (Lit.int .i64 b).wf = true) (_ : (Lit.int .i64 i).wf = true) :
    Calls Try.prog 3 #[(Value.agg #[Value.int IntKind.i64 l, Value.int IntKind.i64 s, Value.int IntKind.i64 p, Value.int IntKind.i64 b]), .int .i64 i] w fun e w' => e = .returned (.bool true) ∧ Below w.heap.size w w' := by
  by_cases h : May l s p b
  · exact in_ l s p b i w h
  · exact out_ l s p b i w h

set_option maxRecDepth 100000 in
theorem lifted (os : Os) (started : os.Started) (H : Type) (enc : TypeId × Value → H) :
    ReturnsInHanded {} Try.checked os 3 .any (Rows.planFormsSpec.pre6 enc Try.prog Try.f3 Rows.planFormsRow.domain false) (Rows.planFormsSpec.post enc Try.prog Try.f3 false true false false) := by
  refine returnsInHanded_of_change (C := Try.checked) own started (by kernel_rfl) Try.func3
    (ChangeSpec.witness6 (enc := enc) (C := Try.checked) false ⟨#[], #[.agg #[.int .i64 0, .int .i64 0, .int .i64 0, .int .i64 0], .int .i64 0], []⟩ 8 (by kernel_rfl) (by kernel_rfl) (by kernel_rfl) (by kernel_rfl)) ?_
  intro W base args ds gs before hval0 hW hcnd _
  have hval : ∀ (j : Nat) t v, Try.f3.params[j]? = some t → args[j]? = some v → Value.okWide Try.prog W .any base t v := hval0
  have hW' := hW
  have hlt := hW.lt
  obtain ⟨p, q, hA0, hV, hpq, hfz, hnd⟩ := hW
  have hA : DataW.TrodAll enc Try.prog W 0 (fun _ => true) true Try.f3.params.toList args.toList ds p := hA0
  rw [Try.params3] at hA hval
  obtain ⟨v0, vs0, d0, ds0, p0, q0, hargs, rfl, hp, h0, r0⟩ := trodAll_cons hA
  obtain ⟨v1, vs1, d1, ds1, p1, q1, rfl, rfl, rfl, h1, r1⟩ := trodAll_cons r0
  obtain ⟨rfl, rfl, rfl⟩ := trodAll_nil r1
  obtain rfl : args = #[v0, v1] := by cases args; simp_all
  obtain ⟨rfl, rfl⟩ := trodVars_none hV
  have hlt' : ∀ x ∈ before, x.block < W.heap.size := fun x hx => hlt x hx
  obtain ⟨c0, e0, g0, k0, rfl, w0⟩ := plan_in (hval 0 23 v0 rfl rfl) h0
  obtain ⟨a1, rfl, rfl, rfl, w1⟩ := open_int Try.underlying3 (hval 1 3 v1 rfl rfl) h1
  refine (walk c0 e0 g0 k0 a1 W w0 w1).mono fun e W' ⟨he, hb⟩ => ?_
  subst he
  exact ⟨_, rfl, law_post rfl (by kernel_rfl) hW' (by rw [Try.params3]; intro t ht; simp only [List.mem_cons, List.not_mem_nil, or_false] at ht; (repeat' (first | (rcases ht with rfl | ht) | subst ht)) <;> exact ⟨by kernel_rfl, of_decide_eq_true (by kernel_rfl)⟩) rfl hb⟩

theorem over : Rows.planFormsRow.holds Try.pinned (OpenSpec.ofChange Rows.planFormsSpec) :=
  OpenClaim.holds_of_wide 3 Try.f3 rfl rfl rfl rfl rfl rfl rfl ⟨rfl, rfl, rfl, rfl, rfl⟩ rfl rfl rfl rfl rfl (by kernel_rfl) Try.func3 (by kernel_rfl)
    (of_decide_eq_true (by kernel_rfl)) (by unfold Func.isWrapper; first | (rw [if_pos (by decide +kernel)]; kernel_rfl) | (rw [if_neg (by decide +kernel)]; exact ⟨rfl, rfl⟩))
    (fun os started H enc _ => lifted os started H enc)

theorem proved : Rows.PlanFormsSaid := over
end Go.Proofs.Ytojblhgdnolcdaa.planForms
