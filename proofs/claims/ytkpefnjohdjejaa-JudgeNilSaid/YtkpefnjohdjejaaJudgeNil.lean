/-
  A judge that there isn't says no to all, has no blocks, no root, and is not worn. No conditions.
-/
import Derived.Test.YtkpefnjohdjejaaJgk
import Derived.Test.YtkpefnjohdjejaaTld
import Derived.Test.YtkpefnjohdjejaaZma
namespace Go.Proofs.Ytkpefnjohdjejaa.judgeNil
set_option maxRecDepth 100000
open Go.Proofs.Ytkpefnjohdjejaa Go.ChangeShapes Go.WideShapes Go.ChangeAt Go.RowKit

set_option maxHeartbeats 4000000 in
theorem walk (t : Tx) (w : World) (w0 : t.Wf w) :
    Calls Try.prog 4 #[.agg (txc t)] w fun e w' => e = .returned (.bool true) ∧ Below w.heap.size w w' := by
  obtain ⟨W, hW, hst, H⟩ := tx_boxed w t w0.x.one w0.one
  have c4 := H.out.1.c4
  have c7 := H.out.1.c7
  have lo := H.out.1.op
  have la := H.out.1.ans
  have HB := Lib.hid H.out.2
  obtain ⟨q4, n4, e4, _⟩ := ra_shape w0.x.rv
  obtain ⟨q7, n7, e7, _⟩ := ra_shape w0.rv
  have C1 := Lib.hid (jsee_nil t.x t.e t.o W w0.x.one (ra_below w0.rv H.out.2))
  rw [e4] at c4
  rw [e7] at c7 la C1
  clear w0 H e4 e7
  generalize t.x.bl.length = L4 at *
  generalize t.l.length = L7 at *
  by_cases h1 : (L4 : Int) > 500
  · have i1 : 500 < L4 := by omega
    clear C1 lo la
    go_enter Try.func4, Try.ntmps4
    go_wp2_with fail
    refine (awake_any _).mono ?_; rintro e w5 ⟨rfl, b5⟩
    have D5 := Lib.hid (below_more HB.out b5)
    go_wp2_with fail
    go_ret
    exact ⟨rfl, D5.out⟩
  have i1 : ¬ 500 < L4 := by omega
  by_cases h2 : (L7 : Int) > 500
  · have i2 : 500 < L7 := by omega
    clear C1 lo la
    go_enter Try.func4, Try.ntmps4
    go_wp2_with fail
    refine (awake_any _).mono ?_; rintro e w5 ⟨rfl, b5⟩
    have D5 := Lib.hid (below_more HB.out b5)
    go_wp2_with fail
    go_ret
    exact ⟨rfl, D5.out⟩
  have i2 : ¬ 500 < L7 := by omega
  go_enter Try.func4, Try.ntmps4
  go_wp2_with fail
  refine (C1.out).mono ?_; rintro e w1 ⟨rfl, b1⟩
  have D1 := Lib.hid (below_more HB.out b1)
  clear b1
  go_wp2_with fail
  refine (jblk_nil _).mono ?_; rintro e w2 ⟨rfl, rfl⟩
  go_wp2_with fail
  refine (jworn_nil _).mono ?_; rintro e w2 ⟨rfl, rfl⟩
  go_wp2_with fail
  refine (jroot_nil _).mono ?_; rintro e w2 ⟨rfl, rfl⟩
  go_wp2_with fail
  refine (awake_any _).mono ?_; rintro e w5 ⟨rfl, b5⟩
  have D5 := Lib.hid (below_more D1.out b5)
  go_wp2_with fail
  go_ret
  exact ⟨rfl, D5.out⟩
set_option maxRecDepth 100000 in
theorem lifted (os : Os) (started : os.Started) (H : Type) (enc : TypeId × Value → H) :
    ReturnsInHanded {} Try.checked os 4 .any (Rows.judgeNilSpec.pre6 enc Try.prog Try.f4 Rows.judgeNilRow.domain false) (Rows.judgeNilSpec.post enc Try.prog Try.f4 false true false false) := by
  refine returnsInHanded_of_change (C := Try.checked) own started (by kernel_rfl) Try.func4
    (ChangeSpec.witness6 (enc := enc) (C := Try.checked) false ⟨#[], #[.agg #[.int .i64 0, .int .i64 0, .int .i64 0, .int .i64 0, .slice none 0 0, .int .i64 0, .int .i64 0, .slice none 0 0]], []⟩ 8 (by kernel_rfl) (by kernel_rfl) (by kernel_rfl) (by kernel_rfl)) ?_
  intro W base args ds gs before hval0 hW hcnd _
  have hval : ∀ (j : Nat) t v, Try.f4.params[j]? = some t → args[j]? = some v → Value.okWide Try.prog W .any base t v := hval0
  have hW' := hW
  have hlt := hW.lt
  obtain ⟨p, q, hA0, hV, hpq, hfz, hnd⟩ := hW
  have hA : DataW.TrodAll enc Try.prog W 0 (fun _ => true) true Try.f4.params.toList args.toList ds p := hA0
  rw [Try.params4] at hA hval
  obtain ⟨v0, vs0, d0, ds0, p0, q0, hargs, rfl, hp, h0, r0⟩ := trodAll_cons hA
  obtain ⟨rfl, rfl, rfl⟩ := trodAll_nil r0
  obtain rfl : args = #[v0] := by cases args; simp_all
  obtain ⟨rfl, rfl⟩ := trodVars_none hV
  have hlt' : ∀ x ∈ before, x.block < W.heap.size := fun x hx => hlt x hx
  obtain ⟨c0, rfl, w0⟩ := told_in (hval 0 38 v0 rfl rfl) h0
  refine (walk c0 W w0).mono fun e W' ⟨he, hb⟩ => ?_
  subst he
  exact ⟨_, rfl, law_post rfl (by kernel_rfl) hW' (by rw [Try.params4]; intro t ht; simp only [List.mem_cons, List.not_mem_nil, or_false] at ht; (repeat' (first | (rcases ht with rfl | ht) | subst ht)) <;> exact ⟨by kernel_rfl, of_decide_eq_true (by kernel_rfl)⟩) rfl hb⟩

theorem over : Rows.judgeNilRow.holds Try.pinned (OpenSpec.ofChange Rows.judgeNilSpec) :=
  OpenClaim.holds_of_wide 4 Try.f4 rfl rfl rfl rfl rfl rfl rfl ⟨rfl, rfl, rfl, rfl, rfl⟩ rfl rfl rfl rfl rfl (by kernel_rfl) Try.func4 (by kernel_rfl)
    (of_decide_eq_true (by kernel_rfl)) (by unfold Func.isWrapper; first | (rw [if_pos (by decide +kernel)]; kernel_rfl) | (rw [if_neg (by decide +kernel)]; exact ⟨rfl, rfl⟩))
    (fun os started H enc _ => lifted os started H enc)

theorem proved : Rows.JudgeNilSaid := over
end Go.Proofs.Ytkpefnjohdjejaa.judgeNil
