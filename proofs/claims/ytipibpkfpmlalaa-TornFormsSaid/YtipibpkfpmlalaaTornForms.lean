/-
  Package torn answers as the document's reference does, whatever the lines and the mask are. No conditions.
-/
import Derived.Test.YtipibpkfpmlalaaAwt
namespace Go.Proofs.Ytipibpkfpmlalaa.tornForms
open Go.Proofs.Ytipibpkfpmlalaa Go.ChangeShapes Go.WideShapes Go.ChangeAt Go.RowKit

set_option maxRecDepth 100000 in
set_option maxHeartbeats 2000000 in
theorem walk (a b c : List Int) (m : Int) (w : World) (ha : a.length = 8) (_ : wfu a) (hb : b.length = 8) (_ : wfu b) (hc : c.length = 8) (_ : wfu c) (_ : (Lit.int .i64 m).wf = true) :
    Calls Try.prog 3 #[.agg (lc a), .agg (lc b), .agg (lc c), .int .i64 m] w fun e w' => e = .returned (.bool true) ∧ Below w.heap.size w w' := by
  obtain ⟨W, hW, H⟩ := boxed3 w ha hb hc
  have l0 := H.out.1.load
  have l1 := H.out.2.1.load
  have l2 := H.out.2.2.1.load
  go_enter Try.func3, Try.ntmps3
  go_wp2_with fail
  refine (rmasks_go a b c W ha hb hc).mono ?_; rintro e w1 ⟨rfl, hb1⟩
  have B1 := Lib.hid (below_more H.out.2.2.2 hb1)
  clear l0 l1 l2
  have l0 := (H.out.1.below hb1).later
  have l1 := (H.out.2.1.below hb1).later
  have l2 := (H.out.2.2.1.below hb1).later
  clear hb1
  have CG : decide (0 < cnt a b c) = could a b c := by
    rw [cnt_is a b c (by omega) (by omega)]
    cases could a b c
    · rfl
    · have : 0 < 2 ^ same a b := Nat.pow_pos (by omega)
      simpa using this
  have hm := mix_length a b m (by omega)
  have hm8 : (mix a b m).length = 8 := by omega
  have C1 := Lib.hid (fun w => mix_is (a := a) (b := b) (m := m) rfl w ha hb)
  have C2 := Lib.hid (fun w => rmix_is (a := a) (b := b) (m := m) rfl w ha hb)
  have C3 := Lib.hid (fun w => could_is (a := a) (b := b) (c := c) rfl w ha hb hc)
  have C4 := Lib.hid (fun w => masks_is (a := a) (b := b) (c := c) rfl w ha hb hc)
  generalize mix a b m = x at *
  generalize cnt a b c = n at *
  generalize could a b c = B at *
  clear hm
  go_wp2
  go_region_held3 (fun w' => Below w1.heap.size w1 w')
    (first | exact (Below.refl _ _).drew | exact below_more ‹Below w1.heap.size w1 _› hbq)
    (first
      | (go_at_call 8; refine (C1.out _).mono ?_; rintro e wq ⟨rfl, hbq⟩)
      | (go_at_call 9; refine (C2.out _).mono ?_; rintro e wq ⟨rfl, hbq⟩)
      | (go_at_call 10; refine (C3.out _).mono ?_; rintro e wq ⟨rfl, hbq⟩)
      | (go_at_call 11; refine (C4.out _).mono ?_; rintro e wq ⟨rfl, hbq⟩)
      | (go_at_call 12; refine (awake_any _).mono ?_; rintro e wq ⟨rfl, hbq⟩))
  have HB := Lib.hid (below_more B1.out ‹Below w1.heap.size w1 wq›)
  go_wp2
  go_ret
  exact ⟨rfl, HB.out⟩

set_option maxRecDepth 100000 in
theorem lifted (os : Os) (started : os.Started) (H : Type) (enc : TypeId × Value → H) :
    ReturnsInHanded {} Try.checked os 3 .any (Rows.tornFormsSpec.pre6 enc Try.prog Try.f3 Rows.tornFormsRow.domain false) (Rows.tornFormsSpec.post enc Try.prog Try.f3 false true false false) := by
  refine returnsInHanded_of_change (C := Try.checked) own started (by kernel_rfl) Try.func3
    (ChangeSpec.witness6 (enc := enc) (C := Try.checked) false ⟨#[], #[.agg #[.int .u64 0, .int .u64 0, .int .u64 0, .int .u64 0, .int .u64 0, .int .u64 0, .int .u64 0, .int .u64 0], .agg #[.int .u64 0, .int .u64 0, .int .u64 0, .int .u64 0, .int .u64 0, .int .u64 0, .int .u64 0, .int .u64 0], .agg #[.int .u64 0, .int .u64 0, .int .u64 0, .int .u64 0, .int .u64 0, .int .u64 0, .int .u64 0, .int .u64 0], .int .i64 0], []⟩ 8 (by kernel_rfl) (by kernel_rfl) (by kernel_rfl) (by kernel_rfl)) ?_
  intro W base args ds gs before hval0 hW hcnd _
  have hval : ∀ (j : Nat) t v, Try.f3.params[j]? = some t → args[j]? = some v → Value.okWide Try.prog W .any base t v := hval0
  have hW' := hW
  have hlt := hW.lt
  obtain ⟨p, q, hA0, hV, hpq, hfz, hnd⟩ := hW
  have hA : DataW.TrodAll enc Try.prog W 0 (fun _ => true) true Try.f3.params.toList args.toList ds p := hA0
  rw [Try.params3] at hA hval
  obtain ⟨v0, vs0, d0, ds0, p0, q0, hargs, rfl, hp, h0, r0⟩ := trodAll_cons hA
  obtain ⟨v1, vs1, d1, ds1, p1, q1, rfl, rfl, rfl, h1, r1⟩ := trodAll_cons r0
  obtain ⟨v2, vs2, d2, ds2, p2, q2, rfl, rfl, rfl, h2, r2⟩ := trodAll_cons r1
  obtain ⟨v3, vs3, d3, ds3, p3, q3, rfl, rfl, rfl, h3, r3⟩ := trodAll_cons r2
  obtain ⟨rfl, rfl, rfl⟩ := trodAll_nil r3
  obtain rfl : args = #[v0, v1, v2, v3] := by cases args; simp_all
  obtain ⟨rfl, rfl⟩ := trodVars_none hV
  have hlt' : ∀ x ∈ before, x.block < W.heap.size := fun x hx => hlt x hx
  obtain ⟨l0, rfl, n0, w0⟩ := line_in (hval 0 24 v0 rfl rfl) h0
  obtain ⟨l1, rfl, n1, w1⟩ := line_in (hval 1 24 v1 rfl rfl) h1
  obtain ⟨l2, rfl, n2, w2⟩ := line_in (hval 2 24 v2 rfl rfl) h2
  obtain ⟨a3, rfl, rfl, rfl, w3⟩ := open_int Try.underlying3 (hval 3 3 v3 rfl rfl) h3
  refine (walk l0 l1 l2 a3 W n0 w0 n1 w1 n2 w2 w3).mono fun e W' ⟨he, hb⟩ => ?_
  subst he
  exact ⟨_, rfl, law_post rfl (by kernel_rfl) hW' (by rw [Try.params3]; intro t ht; simp only [List.mem_cons, List.not_mem_nil, or_false] at ht; (repeat' (first | (rcases ht with rfl | ht) | subst ht)) <;> exact ⟨by kernel_rfl, of_decide_eq_true (by kernel_rfl)⟩) rfl hb⟩

theorem over : Rows.tornFormsRow.holds Try.pinned (OpenSpec.ofChange Rows.tornFormsSpec) :=
  OpenClaim.holds_of_wide 3 Try.f3 rfl rfl rfl rfl rfl rfl rfl ⟨rfl, rfl, rfl, rfl, rfl⟩ rfl rfl rfl rfl rfl (by kernel_rfl) Try.func3 (by kernel_rfl)
    (of_decide_eq_true (by kernel_rfl)) (by unfold Func.isWrapper; first | (rw [if_pos (by decide +kernel)]; kernel_rfl) | (rw [if_neg (by decide +kernel)]; exact ⟨rfl, rfl⟩))
    (fun os started H enc _ => lifted os started H enc)

theorem proved : Rows.TornFormsSaid := over
end Go.Proofs.Ytipibpkfpmlalaa.tornForms
