/-
  A part is no more than one of the whole; two parts of a whole are one. No conditions.
-/
import Derived.Test.YtaghncdeojdghaaParts
namespace Go.Proofs.Ytaghncdeojdghaa.meanRatios
open Go.Proofs.Ytaghncdeojdghaa Go.Proofs.Ytaghncdeojdghaa.D Go.ChangeShapes Go.WideShapes Go.ChangeAt Go.RowKit

set_option maxHeartbeats 1000000 in
theorem walk (a0 a1 : Int) (w : World) (_ : (Lit.int .i64 a0).wf = true) (_ : (Lit.int .i64 a1).wf = true) :
    Calls Try.prog 8 #[.int .i64 a0, .int .i64 a1] w fun e w' => e = .returned (.bool true) ∧ Below w.heap.size w w' := by
  obtain ⟨u, hu, _⟩ := u64_nat a1
  obtain ⟨v, hv, _⟩ := u64_nat a0
  obtain ⟨b, hb⟩ : ∃ b, b = 1 + u % 1000000 := ⟨_, rfl⟩
  obtain ⟨a, ha⟩ : ∃ a, a = v % (b + 1) := ⟨_, rfl⟩
  have hb1 : 1 ≤ b := by omega
  have hb2 : b ≤ 1000000 := by omega
  have hab : a ≤ b := by have := Nat.mod_lt v (show 0 < b + 1 by omega); omega
  have t1 : (u : Int).tmod 1000000 = (b : Int) - 1 := by have h := tmod_nat u 1000000; rw [show ((1000000 : Nat) : Int) = 1000000 from rfl] at h; omega
  have t2 : (v : Int).tmod ((b : Int) + 1) = (a : Int) := by have := tmod_nat v (b + 1); rw [ha]; exact_mod_cast this
  have t3 : (1 : Int) + ((b : Int) - 1) = (b : Int) := by omega
  obtain ⟨c, hc⟩ : ∃ c, c = b - a := ⟨_, rfl⟩
  have t4 : (b : Int) - (a : Int) = (c : Int) := by omega
  obtain ⟨f1, f2, f3⟩ := part_one hab hb1 (by omega)
  obtain ⟨s, g1, g2, g3, g4⟩ := both hab hb1 (by omega)
  have hQ : Q a b ≤ inf := by have : one ≤ inf := by decide
                              omega
  have ho : one ≤ inf := by decide
  have o1 : (FloatKind.f64.format.order (Q a b) 0 == some .gt || FloatKind.f64.format.order (Q a b) 0 == some .eq) = true := by rw [ord_ge hQ (by decide)]; simp
  have o2 : (FloatKind.f64.format.order (Q a b) 4607182418800017408 == some .lt || FloatKind.f64.format.order (Q a b) 4607182418800017408 == some .eq) = true := (ord_le hQ (show 4607182418800017408 ≤ inf from ho)).trans (decide_eq_true f1)
  have o3 : (FloatKind.f64.format.order (Q a b) 4607182418800017408 == some .eq) = decide (a = b) := (ord_eq hQ (show 4607182418800017408 ≤ inf from ho)).trans (decide_eq_decide.2 f2)
  have o4 : (FloatKind.f64.format.order (Q a b) 0 == some .eq) = decide (a = 0) := by rw [ord_eq hQ (by decide)]; exact decide_eq_decide.2 f3
  rw [o4] at o1
  rw [o3] at o2
  have o5 : (FloatKind.f64.format.order s 4607182409792818153 == some .gt) = true := by rw [ord_gt g2 (by decide)]; exact decide_eq_true g3
  have o6 : (FloatKind.f64.format.order s 4607182423303617035 == some .lt) = true := by rw [ord_lt g2 (by decide)]; exact decide_eq_true g4
  have i1 : ((a : Int) == (b : Int)) = decide (a = b) := by rw [Bool.eq_iff_iff]; simp; omega
  have i2 : ((a : Int) == 0) = decide (a = 0) := by rw [Bool.eq_iff_iff]; simp
  have hs : ∀ w, (binOp .add 25 (.float .f64 (Q a b)) (.float .f64 (Q (b - a) b))).run Try.prog w = .ok (.float .f64 s) w := fun w => run_float_arith w .add _ .f64 _ _ s g1
  rw [← hc] at hs
  have C1 := Lib.hid (rat_c a b (by omega) hb2 hb1 _ rfl)
  have C2 := Lib.hid (rat_c c b (by omega) hb2 hb1 _ rfl)
  clear f1 f2 f3 g1 g2 g3 g4 hQ ho hc ha hb
  generalize Q a b = x at *
  generalize Q c b = y at *
  generalize decide (a = b) = d1 at *
  generalize decide (a = 0) = d2 at *
  go_enter Try.func8, Try.ntmps8
  go_wp2_with fail
  refine (C1.out _).mono ?_; rintro e w1 ⟨rfl, h1⟩
  have B1 := Lib.hid (below_drew h1)
  clear h1
  go_wp2_with fail
  refine (C2.out _).mono ?_; rintro e w2 ⟨rfl, h2⟩
  have B2 := Lib.hid (below_more B1.out (below_drew h2))
  clear h2
  go_wp2_with fail
  refine (awake_any _).mono ?_; rintro e w3 ⟨rfl, h3⟩
  go_wp2_with fail
  go_ret
  exact ⟨rfl, below_more B2.out h3⟩

set_option maxRecDepth 100000 in
theorem lifted (os : Os) (started : os.Started) (H : Type) (enc : TypeId × Value → H) :
    ReturnsInHanded {} Try.checked os 8 .any (Rows.meanRatiosSpec.pre6 enc Try.prog Try.f8 Rows.meanRatiosRow.domain false) (Rows.meanRatiosSpec.post enc Try.prog Try.f8 false true false false) := by
  refine returnsInHanded_of_change (C := Try.checked) own started (by kernel_rfl) Try.func8
    (ChangeSpec.witness6 (enc := enc) (C := Try.checked) false ⟨#[], #[.int .i64 0, .int .i64 0], []⟩ 8 (by kernel_rfl) (by kernel_rfl) (by kernel_rfl) (by kernel_rfl)) ?_
  intro W base args ds gs before hval0 hW hcnd _
  have hval : ∀ (j : Nat) t v, Try.f8.params[j]? = some t → args[j]? = some v → Value.okWide Try.prog W .any base t v := hval0
  have hW' := hW
  have hlt := hW.lt
  obtain ⟨p, q, hA0, hV, hpq, hfz, hnd⟩ := hW
  have hA : DataW.TrodAll enc Try.prog W 0 (fun _ => true) true Try.f8.params.toList args.toList ds p := hA0
  rw [Try.params8] at hA hval
  obtain ⟨v0, vs0, d0, ds0, p0, q0, hargs, rfl, hp, h0, r0⟩ := trodAll_cons hA
  obtain ⟨v1, vs1, d1, ds1, p1, q1, rfl, rfl, rfl, h1, r1⟩ := trodAll_cons r0
  obtain ⟨rfl, rfl, rfl⟩ := trodAll_nil r1
  obtain rfl : args = #[v0, v1] := by cases args; simp_all
  obtain ⟨rfl, rfl⟩ := trodVars_none hV
  have hlt' : ∀ x ∈ before, x.block < W.heap.size := fun x hx => hlt x hx
  obtain ⟨a0, rfl, rfl, rfl, w0⟩ := open_int Try.underlying3 (hval 0 3 v0 rfl rfl) h0
  obtain ⟨a1, rfl, rfl, rfl, w1⟩ := open_int Try.underlying3 (hval 1 3 v1 rfl rfl) h1
  refine (walk a0 a1 W w0 w1).mono fun e W' ⟨he, hb⟩ => ?_
  subst he
  exact ⟨_, rfl, law_post rfl (by kernel_rfl) hW' (by rw [Try.params8]; intro t ht; simp only [List.mem_cons, List.not_mem_nil, or_false] at ht; (repeat' (first | (rcases ht with rfl | ht) | subst ht)) <;> exact ⟨by kernel_rfl, of_decide_eq_true (by kernel_rfl)⟩) rfl hb⟩

theorem over : Rows.meanRatiosRow.holds Try.pinned (OpenSpec.ofChange Rows.meanRatiosSpec) :=
  OpenClaim.holds_of_wide 8 Try.f8 rfl rfl rfl rfl rfl rfl rfl ⟨rfl, rfl, rfl, rfl, rfl⟩ rfl rfl rfl rfl rfl (by kernel_rfl) Try.func8 (by kernel_rfl)
    (of_decide_eq_true (by kernel_rfl)) (by unfold Func.isWrapper; first | (rw [if_pos (by decide +kernel)]; kernel_rfl) | (rw [if_neg (by decide +kernel)]; exact ⟨rfl, rfl⟩))
    (fun os started H enc _ => lifted os started H enc)

theorem proved : Rows.MeanRatiosSaid := over
end Go.Proofs.Ytaghncdeojdghaa.meanRatios
