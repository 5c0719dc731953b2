/-
  What only reads costs nothing; the root is one write; other kinds none. No conditions.
-/
import Derived.Test.YtegbeolnlpgdeaaCow
namespace Go.Proofs.Ytegbeolnlpgdeaa.costKinds
set_option maxRecDepth 100000
open Go.Proofs.Ytegbeolnlpgdeaa Go.ChangeShapes Go.WideShapes Go.ChangeAt Go.RowKit

theorem op_none {d n r : Int} (h : d = 3 ∨ d = 6 ∨ d = 7 ∨ 9 ≤ d) (hr : 0 ≤ r ∧ r ≤ 16) : opC d n (0 : Nat) r = 0 := by
  have e : lnC d n (0 : Nat) = 0 := by unfold lnC; rw [if_neg (by omega), if_neg (by omega), if_neg (by omega)]
  unfold opC; rw [if_pos hr, if_neg (by omega), if_pos e]
theorem op_root {r : Int} (hr : 0 ≤ r ∧ r ≤ 16) : opC 5 0 (0 : Nat) r = 1 := by unfold opC; rw [if_pos hr, if_pos rfl]
theorem op_free {r : Int} (hr : 0 ≤ r ∧ r ≤ 16) : opC 2 0 (0 : Nat) r = 36 + 4 * r := by
  have e : lnC 2 0 (0 : Nat) = 1 := by decide
  unfold opC; rw [if_pos hr, if_neg (by decide), e, if_neg (by decide)]; omega

set_option maxHeartbeats 2000000 in
theorem walk (a0 a1 a2 : Int) (w : World) (_ : (Lit.int .i64 a0).wf = true) (_ : (Lit.int .i64 a1).wf = true) (_ : (Lit.int .i64 a2).wf = true) :
    Calls Try.prog 6 #[.int .i64 a0, .int .i64 a1, .int .i64 a2] w fun e w' => e = .returned (.bool true) ∧ Below w.heap.size w w' := by
  obtain ⟨x, hx, _⟩ := u64_nat a0
  obtain ⟨y, hy, _⟩ := u64_nat a2
  obtain ⟨K, hK⟩ : ∃ K, K = x % 100 := ⟨_, rfl⟩
  obtain ⟨R, hR⟩ : ∃ R, R = y % 17 := ⟨_, rfl⟩
  have t1 : (x : Int).tmod 100 = (K : Int) := by have h := tmod_nat x 100; rw [show ((100 : Nat) : Int) = 100 from rfl] at h; rw [hK]; omega
  have t2 : (y : Int).tmod 17 = (R : Int) := by have h := tmod_nat y 17; rw [show ((17 : Nat) : Int) = 17 from rfl] at h; rw [hR]; omega
  have k1 : IntKind.i64.wrap (K : Int) = (K : Int) := wr64 _ (by omega) (by omega)
  have k2 : IntKind.i64.wrap (R : Int) = (R : Int) := wr64 _ (by omega) (by omega)
  have k3 : IntKind.i64.wrap (9 + (K : Int)) = 9 + (K : Int) := wr64 _ (by omega) (by omega)
  have k4 : IntKind.i64.wrap (4 * (R : Int)) = 4 * (R : Int) := wr64 _ (by omega) (by omega)
  have k5 : IntKind.i64.wrap (36 + 4 * (R : Int)) = 36 + 4 * (R : Int) := wr64 _ (by omega) (by omega)
  have hr : 0 ≤ (R : Int) ∧ (R : Int) ≤ 16 := by omega
  have D1 := Lib.hid (fun w => cop_w 3 0 a1 0 none 0 0 [] (R : Int) 0 (op_none (by omega) hr) w)
  have D2 := Lib.hid (fun w => cop_w 6 0 0 0 none 0 0 [] (R : Int) 0 (op_none (by omega) hr) w)
  have D3 := Lib.hid (fun w => cop_w (9 + (K : Int)) 0 0 0 none 0 0 [] (R : Int) 0 (op_none (by omega) hr) w)
  have D4 := Lib.hid (fun w => cop_w 7 0 a1 0 none 0 0 [] (R : Int) 0 (op_none (by omega) hr) w)
  have D5 := Lib.hid (fun w => cop_w 5 0 0 0 none 0 0 [] (R : Int) 1 (op_root hr) w)
  have D6 := Lib.hid (fun w => cop_w 2 0 0 0 none 0 0 [] (R : Int) (36 + 4 * (R : Int)) (op_free hr) w)
  have B0 := Lib.hid (Below.refl w.heap.size w)
  clear hK hR hr
  go_enter Try.func6, Try.ntmps6
  go_wp2_with fail
  refine (D1.out _).mono ?_; rintro e w1 ⟨rfl, hb⟩
  have B1 := Lib.hid (below_more B0.out hb)
  clear hb
  go_wp2_with fail
  refine (D2.out _).mono ?_; rintro e w2 ⟨rfl, hb⟩
  have B2 := Lib.hid (below_more B1.out hb)
  clear hb
  go_wp2_with fail
  refine (D3.out _).mono ?_; rintro e w3 ⟨rfl, hb⟩
  have B3 := Lib.hid (below_more B2.out hb)
  clear hb
  go_wp2_with fail
  refine (D4.out _).mono ?_; rintro e w4 ⟨rfl, hb⟩
  have B4 := Lib.hid (below_more B3.out hb)
  clear hb
  go_wp2_with fail
  refine (D5.out _).mono ?_; rintro e w5 ⟨rfl, hb⟩
  have B5 := Lib.hid (below_more B4.out hb)
  clear hb
  go_wp2_with fail
  refine (D6.out _).mono ?_; rintro e w6 ⟨rfl, hb⟩
  have B6 := Lib.hid (below_more B5.out hb)
  clear hb
  go_wp2_with fail
  refine (crec_w 17 0 (by decide) _).mono ?_; rintro e w' ⟨rfl, rfl⟩
  go_wp2_with fail
  refine (cfmt_no (l := 0) (s := 0) (p := 0) (b := 0) (by unfold May; omega) _).mono ?_; rintro e w7 ⟨rfl, hb⟩
  have B7 := Lib.hid (below_more B6.out hb)
  clear hb
  go_wp2_with fail
  refine (pmay_no (l := 0) (s := 0) (p := 0) (b := 0) (by unfold May; omega) _).mono ?_; rintro e w8 ⟨rfl, hb⟩
  have B8 := Lib.hid (below_more B7.out hb)
  clear hb
  go_wp2_with fail
  refine (awake_any _).mono ?_; rintro e w9 ⟨rfl, hb⟩
  go_wp2_with fail
  go_ret
  exact ⟨rfl, below_more B8.out hb⟩

set_option maxRecDepth 100000 in
theorem lifted (os : Os) (started : os.Started) (H : Type) (enc : TypeId × Value → H) :
    ReturnsInHanded {} Try.checked os 6 .any (Rows.costKindsSpec.pre6 enc Try.prog Try.f6 Rows.costKindsRow.domain false) (Rows.costKindsSpec.post enc Try.prog Try.f6 false true false false) := by
  refine returnsInHanded_of_change (C := Try.checked) own started (by kernel_rfl) Try.func6
    (ChangeSpec.witness6 (enc := enc) (C := Try.checked) false ⟨#[], #[.int .i64 0, .int .i64 0, .int .i64 0], []⟩ 8 (by kernel_rfl) (by kernel_rfl) (by kernel_rfl) (by kernel_rfl)) ?_
  intro W base args ds gs before hval0 hW hcnd _
  have hval : ∀ (j : Nat) t v, Try.f6.params[j]? = some t → args[j]? = some v → Value.okWide Try.prog W .any base t v := hval0
  have hW' := hW
  have hlt := hW.lt
  obtain ⟨p, q, hA0, hV, hpq, hfz, hnd⟩ := hW
  have hA : DataW.TrodAll enc Try.prog W 0 (fun _ => true) true Try.f6.params.toList args.toList ds p := hA0
  rw [Try.params6] at hA hval
  obtain ⟨v0, vs0, d0, ds0, p0, q0, hargs, rfl, hp, h0, r0⟩ := trodAll_cons hA
  obtain ⟨v1, vs1, d1, ds1, p1, q1, rfl, rfl, rfl, h1, r1⟩ := trodAll_cons r0
  obtain ⟨v2, vs2, d2, ds2, p2, q2, rfl, rfl, rfl, h2, r2⟩ := trodAll_cons r1
  obtain ⟨rfl, rfl, rfl⟩ := trodAll_nil r2
  obtain rfl : args = #[v0, v1, v2] := by cases args; simp_all
  obtain ⟨rfl, rfl⟩ := trodVars_none hV
  have hlt' : ∀ x ∈ before, x.block < W.heap.size := fun x hx => hlt x hx
  obtain ⟨a0, rfl, rfl, rfl, w0⟩ := open_int Try.underlying3 (hval 0 3 v0 rfl rfl) h0
  obtain ⟨a1, rfl, rfl, rfl, w1⟩ := open_int Try.underlying3 (hval 1 3 v1 rfl rfl) h1
  obtain ⟨a2, rfl, rfl, rfl, w2⟩ := open_int Try.underlying3 (hval 2 3 v2 rfl rfl) h2
  refine (walk a0 a1 a2 W w0 w1 w2).mono fun e W' ⟨he, hb⟩ => ?_
  subst he
  exact ⟨_, rfl, law_post rfl (by kernel_rfl) hW' (by rw [Try.params6]; intro t ht; simp only [List.mem_cons, List.not_mem_nil, or_false] at ht; (repeat' (first | (rcases ht with rfl | ht) | subst ht)) <;> exact ⟨by kernel_rfl, of_decide_eq_true (by kernel_rfl)⟩) rfl hb⟩

theorem over : Rows.costKindsRow.holds Try.pinned (OpenSpec.ofChange Rows.costKindsSpec) :=
  OpenClaim.holds_of_wide 6 Try.f6 rfl rfl rfl rfl rfl rfl rfl ⟨rfl, rfl, rfl, rfl, rfl⟩ rfl rfl rfl rfl rfl (by kernel_rfl) Try.func6 (by kernel_rfl)
    (of_decide_eq_true (by kernel_rfl)) (by unfold Func.isWrapper; first | (rw [if_pos (by decide +kernel)]; kernel_rfl) | (rw [if_neg (by decide +kernel)]; exact ⟨rfl, rfl⟩))
    (fun os started H enc _ => lifted os started H enc)

theorem proved : Rows.CostKindsSaid := over
end Go.Proofs.Ytegbeolnlpgdeaa.costKinds
