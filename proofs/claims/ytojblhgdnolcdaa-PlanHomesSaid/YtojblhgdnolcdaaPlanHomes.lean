/-
  Every line of the heap has a home of its own, behind the log; the device has a slot more than lines, and the spare ones. No conditions.
-/
import Derived.Test.YtojblhgdnolcdaaPlw
namespace Go.Proofs.Ytojblhgdnolcdaa.planHomes
open Go.Proofs.Ytojblhgdnolcdaa Go.ChangeShapes Go.WideShapes Go.ChangeAt Go.RowKit


set_option maxRecDepth 100000 in
set_option maxHeartbeats 2000000 in
theorem out_ (l s p b x y : Int) (w : World) (h : ¬ May l s p b) :
    Calls Try.prog 4 #[(Value.agg #[Value.int IntKind.i64 l, Value.int IntKind.i64 s, Value.int IntKind.i64 p, Value.int IntKind.i64 b]), .int .i64 x, .int .i64 y] w fun e w' => e = .returned (.bool true) ∧ Below w.heap.size w w' := by
  obtain ⟨W, hW, H⟩ := plan_boxed w l s p b
  have l0 := H.out.1.load
  have D0 := Lib.hid (pmay_no h W)
  obtain ⟨Z, hZ⟩ : ∃ Z : Int, 0 = Z := ⟨_, rfl⟩
  have D1 := Lib.hid (pmay_no h); have D2 := Lib.hid (words_none h hZ); have D3 := Lib.hid (rmay_no h); have D6 := Lib.hid (device_none h hZ)
  have z0 : (Z == 0) = true := by simp [← hZ]
  clear hZ h
  go_enter Try.func4, Try.ntmps4
  go_wp2_with fail
  refine (D0.out).mono ?_; rintro e w1 ⟨rfl, hb⟩
  have B1 := Lib.hid (below_more H.out.2 hb)
  have L := Lib.hid (H.out.1.below hb)
  have r0 := L.out.later
  clear hb l0
  go_wp2_with fail
  go_region_held3 (fun w' => Below w1.heap.size w1 w')
    (first | exact (Below.refl _ _).drew | exact below_more ‹Below w1.heap.size w1 _› hbq)
    (first
      | (go_at_call 8; refine (D1.out _).mono ?_; rintro e wq ⟨rfl, hbq⟩)
      | (go_at_call 9; refine (D2.out _).mono ?_; rintro e wq ⟨rfl, hbq⟩)
      | (go_at_call 7; refine (D3.out _).mono ?_; rintro e wq ⟨rfl, hbq⟩)
      | (go_at_call 13; refine (D6.out _).mono ?_; rintro e wq ⟨rfl, hbq⟩)
      | (go_at_call 16; refine (awake_any _).mono ?_; rintro e wq ⟨rfl, hbq⟩))
  have HB := Lib.hid (below_more B1.out ‹Below w1.heap.size w1 wq›)
  go_wp2
  go_ret
  exact ⟨rfl, HB.out⟩

set_option maxRecDepth 100000 in
set_option maxHeartbeats 4000000 in
theorem in_ (l s p b x y : Int) (w : World) (h : May l s p b) :
    Calls Try.prog 4 #[(Value.agg #[Value.int IntKind.i64 l, Value.int IntKind.i64 s, Value.int IntKind.i64 p, Value.int IntKind.i64 b]), .int .i64 x, .int .i64 y] w fun e w' => e = .returned (.bool true) ∧ Below w.heap.size w w' := by
  obtain ⟨L, S, P, B, rfl, rfl, rfl, rfl, hN⟩ := h.nat
  obtain ⟨⟨n1, n2⟩, n3, _⟩ := hN
  obtain ⟨W, hW, H⟩ := plan_boxed w L S P B
  have l0 := H.out.1.load
  obtain ⟨u, hu, _⟩ := u64_nat x
  obtain ⟨v, hv, _⟩ := u64_nat y
  obtain ⟨a, ha⟩ : ∃ a, u % L = a := ⟨_, rfl⟩
  obtain ⟨c, hc⟩ : ∃ c, v % L = c := ⟨_, rfl⟩
  have ha2 : a < L := by rw [← ha]; exact Nat.mod_lt _ (by omega)
  have hc2 : c < L := by rw [← hc]; exact Nat.mod_lt _ (by omega)
  have q0 : IntKind.u64.wrap (L : Int) = L := IntWalk.u64_in _ (by omega)
  have t1 : (u : Int).tmod (L : Int) = (a : Int) := by rw [← ha]; exact tmod_nat u L
  have t2 : (v : Int).tmod (L : Int) = (c : Int) := by rw [← hc]; exact tmod_nat v L
  have q1 : IntKind.i64.wrap (a : Int) = a := i64_nat _ (by omega)
  have q2 : IntKind.i64.wrap (c : Int) = c := i64_nat _ (by omega)
  have q3 : ¬ (L : Int) = 0 := by omega
  obtain ⟨v1, e1⟩ : ∃ v, wdM L = v := ⟨_, rfl⟩
  obtain ⟨v2, e2⟩ : ∃ v, pgM L = v := ⟨_, rfl⟩
  obtain ⟨v3, e3⟩ : ∃ v, lgM L = v := ⟨_, rfl⟩
  obtain ⟨v4, e4⟩ : ∃ v, dvM L S = v := ⟨_, rfl⟩
  obtain ⟨v5, e5⟩ : ∃ v, hmM L a = v := ⟨_, rfl⟩
  obtain ⟨v6, e6⟩ : ∃ v, hmM L c = v := ⟨_, rfl⟩
  obtain ⟨v7, e7⟩ : ∃ v : Int, 17 + (L : Int) = v := ⟨_, rfl⟩
  obtain ⟨v8, e8⟩ : ∃ v : Int, (a : Int) / 4 = v := ⟨_, rfl⟩
  have D0 := Lib.hid (pmay_yes h W); have E0 := Lib.hid (rmay_yes h)
  have D2 := Lib.hid (words_any h e1); have D3 := Lib.hid (pages_any h e2)
  have D5 := Lib.hid (logical_any h e3); have D6 := Lib.hid (device_any h e4); have D7 := Lib.hid (fun (i v : Int) (hv : hmM L i = v) => home_any (i := i) h hv)
  have f5 : v5 = 16 + (a : Int) := by rw [← e5]; unfold hmM; rw [if_pos (by omega)]
  have f6 : v6 = 16 + (c : Int) := by rw [← e6]; unfold hmM; rw [if_pos (by omega)]
  have j1 : v5 ≥ 16 := by omega
  have j2 : v5 < v3 := by rw [← e3]; unfold lgM; omega
  have j3 : IntKind.i64.wrap (v3 + 1) = v7 := by rw [← e3]; unfold lgM; rw [show 16 + (L : Int) + 1 = v7 by omega]; exact IntWalk.i64_in _ (by omega)
  have j4 : IntKind.i64.wrap (v7 + (S : Int)) = v4 := by rw [← e4]; unfold dvM; rw [show v7 + (S : Int) = 17 + (L : Int) + S by omega]; exact IntWalk.i64_in _ (by omega)
  have j5 : IntKind.i64.wrap (8 * (L : Int)) = v1 := by rw [← e1]; unfold wdM; rw [show 8 * (L : Int) = L * 8 by omega]; exact IntWalk.i64_in _ (by omega)
  have j6 : v2 ≤ 16 := by rw [← e2]; unfold pgM; omega
  have j7 : (a : Int).tdiv 4 = v8 := by rw [← e8]; exact tdiv_nat a 4
  have j8 : IntKind.i64.wrap v8 = v8 := by rw [← e8]; exact IntWalk.i64_in _ (by omega)
  have j9 : v8 < v2 := by rw [← e2, ← e8]; unfold pgM; omega
  obtain ⟨t, ht1, ht2⟩ : ∃ t, (v5 == v6) = t ∧ ((a : Int) == (c : Int)) = t := by
    refine ⟨_, rfl, ?_⟩
    rw [f5, f6]
    by_cases hac : a = c
    · subst hac; simp
    · rw [beq_eq_false_iff_ne.2 (by omega), beq_eq_false_iff_ne.2 (by omega)]
  clear e1 e2 e3 e4 e7 e8 f5 f6 h ha hc ha2 hc2 n1 n2 n3
  go_enter Try.func4, Try.ntmps4
  go_wp2_with fail
  refine (D0.out).mono ?_; rintro e w1 ⟨rfl, hb⟩
  have B1 := Lib.hid (below_more H.out.2 hb)
  have L1 := Lib.hid (H.out.1.below hb)
  have l0 := L1.out.load
  clear hb
  go_wp2_with fail
  refine (E0.out _).mono ?_; rintro e w2 ⟨rfl, hb⟩
  have B2 := Lib.hid (below_more B1.out hb)
  have L2 := Lib.hid (L1.out.below hb)
  have c0 := L2.out.c0
  clear hb l0
  go_wp2_with fail
  go_quiet (fail)
  go_wp2_with fail
  obtain ⟨V, hV⟩ : ∃ V, V = w2.drewN nq := ⟨_, rfl⟩
  have B3 := Lib.hid (show Below w.heap.size w V by rw [hV]; exact below_drewN B2.out nq)
  have L3 : Hid (Pq V w.heap.size L S P B) := Lib.hid (by rw [hV]; exact L2.out.below (below_drewN (Below.refl _ _) nq))
  have r0 := L3.out.later
  rw [← hV]
  clear hV c0 q0 t1 t2 q1 q2 q3 hu hv
  go_region_held3 (fun w' => Below V.heap.size V w')
    (first | exact (Below.refl _ _).drew | exact below_more ‹Below V.heap.size V _› hby)
    ((go_at_call 15; refine (D7.out _ _ (by assumption) _).mono ?_; rintro e wy ⟨rfl, hby⟩))
  have hbw := ‹Below V.heap.size V wy›
  have B4 := Lib.hid (below_more B3.out hbw)
  have L4 := Lib.hid (L3.out.below hbw)
  clear hbw r0 e5 e6
  have r0 := L4.out.later
  have r1 := L4.out.later0
  have r2 := L4.out.later1
  go_wp2_with fail
  go_region_held3 (fun w' => Below wy.heap.size wy w')
    (first | exact (Below.refl _ _).drew | exact below_more ‹Below wy.heap.size wy _› hbq)
    (first
      | (go_at_call 9; refine (D2.out _).mono ?_; rintro e wq ⟨rfl, hbq⟩)
      | (go_at_call 10; refine (D3.out _).mono ?_; rintro e wq ⟨rfl, hbq⟩)
      | (go_at_call 12; refine (D5.out _).mono ?_; rintro e wq ⟨rfl, hbq⟩)
      | (go_at_call 13; refine (D6.out _).mono ?_; rintro e wq ⟨rfl, hbq⟩)
      | (go_at_call 16; refine (awake_any _).mono ?_; rintro e wq ⟨rfl, hbq⟩))
  have HB := Lib.hid (below_more B4.out ‹Below wy.heap.size wy wq›)
  go_wp2
  go_ret
  exact ⟨rfl, HB.out⟩

theorem walk (l s p b x y : Int) (w : World) (_ : (Lit.int .i64 l).wf = true ∧ (Lit.int .i64 s).wf = true ∧ (Lit.int .i64 p).wf = true ∧ (Lit.int .i64 b).wf = true) (_ : (Lit.int .i64 x).wf = true) (_ : (Lit.int .i64 y).wf = true) :
    Calls Try.prog 4 #[(Value.agg #[Value.int IntKind.i64 l, Value.int IntKind.i64 s, Value.int IntKind.i64 p, Value.int IntKind.i64 b]), .int .i64 x, .int .i64 y] w fun e w' => e = .returned (.bool true) ∧ Below w.heap.size w w' := by
  by_cases h : May l s p b
  · exact in_ l s p b x y w h
  · exact out_ l s p b x y w h

set_option maxRecDepth 100000 in
theorem lifted (os : Os) (started : os.Started) (H : Type) (enc : TypeId × Value → H) :
    ReturnsInHanded {} Try.checked os 4 .any (Rows.planHomesSpec.pre6 enc Try.prog Try.f4 Rows.planHomesRow.domain false) (Rows.planHomesSpec.post enc Try.prog Try.f4 false true false false) := by
  refine returnsInHanded_of_change (C := Try.checked) own started (by kernel_rfl) Try.func4
    (ChangeSpec.witness6 (enc := enc) (C := Try.checked) false ⟨#[], #[.agg #[.int .i64 0, .int .i64 0, .int .i64 0, .int .i64 0], .int .i64 0, .int .i64 0], []⟩ 8 (by kernel_rfl) (by kernel_rfl) (by kernel_rfl) (by kernel_rfl)) ?_
  intro W base args ds gs before hval0 hW hcnd _
  have hval : ∀ (j : Nat) t v, Try.f4.params[j]? = some t → args[j]? = some v → Value.okWide Try.prog W .any base t v := hval0
  have hW' := hW
  have hlt := hW.lt
  obtain ⟨p, q, hA0, hV, hpq, hfz, hnd⟩ := hW
  have hA : DataW.TrodAll enc Try.prog W 0 (fun _ => true) true Try.f4.params.toList args.toList ds p := hA0
  rw [Try.params4] at hA hval
  obtain ⟨v0, vs0, d0, ds0, p0, q0, hargs, rfl, hp, h0, r0⟩ := trodAll_cons hA
  obtain ⟨v1, vs1, d1, ds1, p1, q1, rfl, rfl, rfl, h1, r1⟩ := trodAll_cons r0
  obtain ⟨v2, vs2, d2, ds2, p2, q2, rfl, rfl, rfl, h2, r2⟩ := trodAll_cons r1
  obtain ⟨rfl, rfl, rfl⟩ := trodAll_nil r2
  obtain rfl : args = #[v0, v1, v2] := by cases args; simp_all
  obtain ⟨rfl, rfl⟩ := trodVars_none hV
  have hlt' : ∀ x ∈ before, x.block < W.heap.size := fun x hx => hlt x hx
  obtain ⟨c0, e0, g0, k0, rfl, w0⟩ := plan_in (hval 0 23 v0 rfl rfl) h0
  obtain ⟨a1, rfl, rfl, rfl, w1⟩ := open_int Try.underlying3 (hval 1 3 v1 rfl rfl) h1
  obtain ⟨a2, rfl, rfl, rfl, w2⟩ := open_int Try.underlying3 (hval 2 3 v2 rfl rfl) h2
  refine (walk c0 e0 g0 k0 a1 a2 W w0 w1 w2).mono fun e W' ⟨he, hb⟩ => ?_
  subst he
  exact ⟨_, rfl, law_post rfl (by kernel_rfl) hW' (by rw [Try.params4]; intro t ht; simp only [List.mem_cons, List.not_mem_nil, or_false] at ht; (repeat' (first | (rcases ht with rfl | ht) | subst ht)) <;> exact ⟨by kernel_rfl, of_decide_eq_true (by kernel_rfl)⟩) rfl hb⟩

theorem over : Rows.planHomesRow.holds Try.pinned (OpenSpec.ofChange Rows.planHomesSpec) :=
  OpenClaim.holds_of_wide 4 Try.f4 rfl rfl rfl rfl rfl rfl rfl ⟨rfl, rfl, rfl, rfl, rfl⟩ rfl rfl rfl rfl rfl (by kernel_rfl) Try.func4 (by kernel_rfl)
    (of_decide_eq_true (by kernel_rfl)) (by unfold Func.isWrapper; first | (rw [if_pos (by decide +kernel)]; kernel_rfl) | (rw [if_neg (by decide +kernel)]; exact ⟨rfl, rfl⟩))
    (fun os started H enc _ => lifted os started H enc)

theorem proved : Rows.PlanHomesSaid := over
end Go.Proofs.Ytojblhgdnolcdaa.planHomes
