/-
  A memory that there isn't tells zero values and ErrArg, whatever is asked of it. No conditions.
-/
import Derived.Test.YtomodoofpjgpgaaCav
import Derived.Deep.RegionHeld3
namespace Go.Proofs.Ytomodoofpjgpgaa.nvmNil
open Go.Proofs.Ytomodoofpjgpgaa Go.ChangeShapes Go.WideShapes Go.ChangeAt Go.RowKit

set_option maxRecDepth 100000 in
set_option maxHeartbeats 2000000 in
theorem walk (c : Cl) (w : World) (hc : c.Wf) :
    Calls Try.prog 4 #[.agg (cc c)] w fun e w' => e = .returned (.bool true) ∧ Below w.heap.size w w' := by
  obtain ⟨W, hW⟩ : ∃ W, w.alloc (.cells (cc c) 33) = W := ⟨_, rfl⟩
  have V := Cv.new w hc.len
  have B0 := bal (o := .cells (cc c) 33) (Below.refl w.heap.size w)
  rw [hW] at V B0
  have HV := Lib.hid V
  have HB0 := Lib.hid B0
  obtain ⟨_, c1, c2, _⟩ := V.nums
  have hl := hc.len
  obtain ⟨d, i, n, l, v⟩ := c
  dsimp only at c1 c2 hl
  clear V B0 hc
  go_enter Try.func4, Try.ntmps4
  go_wp2_with fail
  refine (cut_nil n i W).mono ?_; rintro e w' ⟨rfl, rfl⟩
  go_wp2_with fail
  refine (power_nil W).mono ?_; rintro e w' ⟨rfl, rfl⟩
  go_wp2_with fail
  refine (get_nil i W).mono ?_; rintro e w1 ⟨rfl, hb⟩
  obtain ⟨W1, hW1, H⟩ := boxed1 w1 (a := zeros) rfl
  have V1 := Lib.hid ((HV.out.below hb).below H.out.2)
  have B1 := Lib.hid (below_more (below_more HB0.out hb) H.out.2)
  clear hb c1 c2
  obtain ⟨_, c1, c2, _⟩ := V1.out.nums
  dsimp only at c1 c2
  have hz8 : zeros.length = 8 := rfl
  go_wp2_with fail
  refine (reg_nil i W1).mono ?_; rintro e w' ⟨rfl, rfl⟩
  clear c1 c2
  have d1 : ∀ w', Below W1.heap.size W1 w' → w'.cell? ⟨w.heap.size, 1, none⟩ = some (.int .i64 i) := fun w' hb => (V1.out.below hb).nums.2.1
  have d2 : ∀ w', Below W1.heap.size W1 w' → w'.cell? ⟨w.heap.size, 11, none⟩ = some (.int .u64 v) := fun w' hb => (V1.out.below hb).nums.2.2.2
  have d3 : ∀ w', Below W1.heap.size W1 w' → (lineLoad (.pointer (some ⟨w.heap.size, 3, none⟩))).run Try.prog w' = .ok (.agg (lc l)) w' := fun w' hb => (V1.out.below hb).line
  have d4 := H.out.1.later
  have hs : (zeros == [0, 0, 0, 0, 0, 0, 0, (0 : Int)]) = true := by decide
  go_wp2
  go_region_held3 (fun w' => Below W1.heap.size W1 w')
    (first | assumption | exact (Below.refl _ _).drew | exact below_more ‹Below W1.heap.size W1 _› hbq)
    (first
      | (go_at_call 12; refine (put_nil _ _ _).mono ?_; rintro e wq ⟨rfl, hbq⟩)
      | (go_at_call 14; refine (set_nil _ _ _).mono ?_; rintro e wq ⟨rfl, rfl⟩)
      | (go_at_call 24; refine (down_nil _).mono ?_; rintro e wq ⟨rfl, rfl⟩)
      | (go_at_call 25; refine (writes_nil _).mono ?_; rintro e wq ⟨rfl, rfl⟩)
      | (go_at_call 27; refine (wear_nil _ _).mono ?_; rintro e wq ⟨rfl, rfl⟩)
      | (go_at_call 26; refine (lines_nil _).mono ?_; rintro e wq ⟨rfl, rfl⟩)
      | (go_at_call 9; refine (awake_any _).mono ?_; rintro e wq ⟨rfl, hbq⟩))
  have HB := Lib.hid (below_more B1.out ‹Below W1.heap.size W1 wq›)
  go_wp2
  go_ret
  exact ⟨rfl, HB.out⟩

set_option maxRecDepth 100000 in
theorem lifted (os : Os) (started : os.Started) (H : Type) (enc : TypeId × Value → H) :
    ReturnsInHanded {} Try.checked os 4 .any (Rows.nvmNilSpec.pre6 enc Try.prog Try.f4 Rows.nvmNilRow.domain false) (Rows.nvmNilSpec.post enc Try.prog Try.f4 false true false false) := by
  refine returnsInHanded_of_change (C := Try.checked) own started (by kernel_rfl) Try.func4
    (ChangeSpec.witness6 (enc := enc) (C := Try.checked) false ⟨#[], #[.agg #[.int .i64 0, .int .i64 0, .int .i64 0, .int .u64 0, .int .u64 0, .int .u64 0, .int .u64 0, .int .u64 0, .int .u64 0, .int .u64 0, .int .u64 0, .int .u64 0]], []⟩ 8 (by kernel_rfl) (by kernel_rfl) (by kernel_rfl) (by kernel_rfl)) ?_
  intro W base args ds gs before hval0 hW hcnd _
  have hval : ∀ (j : Nat) t v, Try.f4.params[j]? = some t → args[j]? = some v → Value.okWide Try.prog W .any base t v := hval0
  have hW' := hW
  have hlt := hW.lt
  obtain ⟨p, q, hA0, hV, hpq, hfz, hnd⟩ := hW
  have hA : DataW.TrodAll enc Try.prog W 0 (fun _ => true) true Try.f4.params.toList args.toList ds p := hA0
  rw [Try.params4] at hA hval
  obtain ⟨v0, vs0, d0, ds0, p0, q0, hargs, rfl, hp, h0, r0⟩ := trodAll_cons hA
  obtain ⟨rfl, rfl, rfl⟩ := trodAll_nil r0
  obtain rfl : args = #[v0] := by cases args; simp_all
  obtain ⟨rfl, rfl⟩ := trodVars_none hV
  have hlt' : ∀ x ∈ before, x.block < W.heap.size := fun x hx => hlt x hx
  obtain ⟨c0, rfl, w0⟩ := call_in (hval 0 33 v0 rfl rfl) h0
  refine (walk c0 W w0).mono fun e W' ⟨he, hb⟩ => ?_
  subst he
  exact ⟨_, rfl, law_post rfl (by kernel_rfl) hW' (by rw [Try.params4]; intro t ht; simp only [List.mem_cons, List.not_mem_nil, or_false] at ht; (repeat' (first | (rcases ht with rfl | ht) | subst ht)) <;> exact ⟨by kernel_rfl, of_decide_eq_true (by kernel_rfl)⟩) rfl hb⟩

theorem over : Rows.nvmNilRow.holds Try.pinned (OpenSpec.ofChange Rows.nvmNilSpec) :=
  OpenClaim.holds_of_wide 4 Try.f4 rfl rfl rfl rfl rfl rfl rfl ⟨rfl, rfl, rfl, rfl, rfl⟩ rfl rfl rfl rfl rfl (by kernel_rfl) Try.func4 (by kernel_rfl)
    (of_decide_eq_true (by kernel_rfl)) (by unfold Func.isWrapper; first | (rw [if_pos (by decide +kernel)]; kernel_rfl) | (rw [if_neg (by decide +kernel)]; exact ⟨rfl, rfl⟩))
    (fun os started H enc _ => lifted os started H enc)

theorem proved : Rows.NvmNilSaid := over
end Go.Proofs.Ytomodoofpjgpgaa.nvmNil
