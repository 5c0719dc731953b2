/-
  Of a model that there isn't each call tells the zero value, or that the argument may not be; its copy is none. No conditions.
-/
import Derived.Test.YtlhpcimbigfmkaaMaw
import Derived.Test.YtlhpcimbigfmkaaMqd
import Derived.Test.YtlhpcimbigfmkaaZme
namespace Go.Proofs.Ytlhpcimbigfmkaa.modelNil
set_option maxRecDepth 100000
open Go.Proofs.Ytlhpcimbigfmkaa Go.ChangeShapes Go.WideShapes Go.ChangeAt Go.RowKit

set_option maxHeartbeats 2000000 in
theorem walk (c0 : Qx) (w : World) (h0 : c0.Wf w) :
    Calls Try.prog 4 #[.agg (qc c0)] w fun e w' => e = .returned (.bool true) ∧ Below w.heap.size w w' := by
  obtain ⟨W, hW, _, H⟩ := qo_boxed w c0 h0.one
  obtain ⟨q, d, hv, _, _⟩ := ra_shape h0.rv
  have HB := Lib.hid H.out.2
  have c1 : W.cell? ⟨w.heap.size, 1, none⟩ = some (.int .i64 c0.nn) := H.out.1.c1
  have c2 : W.cell? ⟨w.heap.size, 2, none⟩ = some (.int .i64 c0.o) := H.out.1.c2
  have c3 : W.cell? ⟨w.heap.size, 3, none⟩ = some (.slice q c0.bl.length d) := by rw [← hv]; exact H.out.1.c3
  have HC : Hid (∀ w', Below W.heap.size W w' → w'.cell? ⟨w.heap.size, 1, none⟩ = some (.int .i64 c0.nn) ∧ w'.cell? ⟨w.heap.size, 2, none⟩ = some (.int .i64 c0.o) ∧ w'.cell? ⟨w.heap.size, 3, none⟩ = some (.slice q c0.bl.length d)) := Lib.hid fun w' hb => by
    have := H.out.1.below hb
    exact ⟨this.c1, this.c2, by rw [← hv]; exact this.c3⟩
  clear H hv h0
  generalize c0.bl.length = L at *
  generalize c0.nn = n at *
  generalize c0.o = o at *
  by_cases hL : (L : Int) > 500
  · clear HC
    go_enter Try.func4, Try.ntmps4
    go_wp2_with fail
    refine (awake_any _).mono ?_; rintro e w1 ⟨rfl, b1⟩
    have D1 := Lib.hid (below_more HB.out b1)
    go_wp2_with fail
    go_ret
    exact ⟨rfl, D1.out⟩
  · go_enter Try.func4, Try.ntmps4
    go_wp2_with fail
    refine (mread_nil o n _).mono ?_; rintro e w1 ⟨rfl, b1⟩
    have D1 := Lib.hid b1
    obtain ⟨d1, d2, d3⟩ := HC.out w1 D1.out
    clear b1
    go_wp2_with fail
    refine (mofs_nil n _).mono ?_; rintro e w2 ⟨rfl, b2⟩
    have D2 := Lib.hid (below_more D1.out b2)
    obtain ⟨d4, d5, d6⟩ := HC.out w2 D2.out
    clear b2 d1 d2 d3
    go_wp2_with fail
    refine (malloc_nil n o _).mono ?_; rintro e w3 ⟨rfl, b3⟩
    have D3 := Lib.hid (below_more D2.out b3)
    obtain ⟨d1, d2, d3⟩ := HC.out w3 D3.out
    clear b3 d4 d5 d6
    go_wp2_with fail
    refine (mfree_nil o _).mono ?_; rintro e w4 ⟨rfl, b4⟩
    have D4 := Lib.hid (below_more D3.out b4)
    obtain ⟨d4, d5, d6⟩ := HC.out w4 D4.out
    clear b4 d1 d2 d3
    go_wp2_with fail
    refine (mwrite_nil o q L d _).mono ?_; rintro e w5 ⟨rfl, b5⟩
    have D5 := Lib.hid (below_more D4.out b5)
    obtain ⟨d1, d2, d3⟩ := HC.out w5 D5.out
    clear b5 d4 d5 d6
    go_wp2_with fail
    refine (msetr_nil o _).mono ?_; rintro e w6 ⟨rfl, b6⟩
    have D6 := Lib.hid (below_more D5.out b6)
    clear b6 d1 d2 d3
    go_wp2_with fail
    refine (mroot_nil _).mono ?_; rintro e w7 ⟨rfl, rfl⟩
    go_wp2_with fail
    refine (mobl_nil _).mono ?_; rintro e w7 ⟨rfl, rfl⟩
    go_wp2_with fail
    refine (mcopy_nil _).mono ?_; rintro e w7 ⟨rfl, rfl⟩
    go_wp2_with fail
    refine (heavy_is [] _ w6 (ra_nil _ _) 0 rfl).mono ?_; rintro e w7 ⟨rfl, b7⟩
    have D7 := Lib.hid (below_more D6.out b7)
    clear b7
    go_wp2_with fail
    refine (awake_any _).mono ?_; rintro e w8 ⟨rfl, b8⟩
    have D8 := Lib.hid (below_more HB.out (below_more D7.out b8))
    go_wp2_with fail
    go_ret
    exact ⟨rfl, D8.out⟩

set_option maxRecDepth 100000 in
theorem lifted (os : Os) (started : os.Started) (H : Type) (enc : TypeId × Value → H) :
    ReturnsInHanded {} Try.checked os 4 .any (Rows.modelNilSpec.pre6 enc Try.prog Try.f4 Rows.modelNilRow.domain false) (Rows.modelNilSpec.post enc Try.prog Try.f4 false true false false) := by
  refine returnsInHanded_of_change (C := Try.checked) own started (by kernel_rfl) Try.func4
    (ChangeSpec.witness6 (enc := enc) (C := Try.checked) false ⟨#[], #[.agg #[.int .i64 0, .int .i64 0, .int .i64 0, .slice none 0 0]], []⟩ 8 (by kernel_rfl) (by kernel_rfl) (by kernel_rfl) (by kernel_rfl)) ?_
  intro W base args ds gs before hval0 hW hcnd _
  have hval : ∀ (j : Nat) t v, Try.f4.params[j]? = some t → args[j]? = some v → Value.okWide Try.prog W .any base t v := hval0
  have hW' := hW
  have hlt := hW.lt
  obtain ⟨p, q, hA0, hV, hpq, hfz, hnd⟩ := hW
  have hA : DataW.TrodAll enc Try.prog W 0 (fun _ => true) true Try.f4.params.toList args.toList ds p := hA0
  rw [Try.params4] at hA hval
  obtain ⟨v0, vs0, d0, ds0, p0, q0, hargs, rfl, hp, h0, r0⟩ := trodAll_cons hA
  obtain ⟨rfl, rfl, rfl⟩ := trodAll_nil r0
  obtain rfl : args = #[v0] := by cases args; simp_all
  obtain ⟨rfl, rfl⟩ := trodVars_none hV
  have hlt' : ∀ x ∈ before, x.block < W.heap.size := fun x hx => hlt x hx
  obtain ⟨c0, rfl, w0⟩ := mop_in (hval 0 35 v0 rfl rfl) h0
  refine (walk c0 W w0).mono fun e W' ⟨he, hb⟩ => ?_
  subst he
  exact ⟨_, rfl, law_post rfl (by kernel_rfl) hW' (by rw [Try.params4]; intro t ht; simp only [List.mem_cons, List.not_mem_nil, or_false] at ht; (repeat' (first | (rcases ht with rfl | ht) | subst ht)) <;> exact ⟨by kernel_rfl, of_decide_eq_true (by kernel_rfl)⟩) rfl hb⟩

theorem over : Rows.modelNilRow.holds Try.pinned (OpenSpec.ofChange Rows.modelNilSpec) :=
  OpenClaim.holds_of_wide 4 Try.f4 rfl rfl rfl rfl rfl rfl rfl ⟨rfl, rfl, rfl, rfl, rfl⟩ rfl rfl rfl rfl rfl (by kernel_rfl) Try.func4 (by kernel_rfl)
    (of_decide_eq_true (by kernel_rfl)) (by unfold Func.isWrapper; first | (rw [if_pos (by decide +kernel)]; kernel_rfl) | (rw [if_neg (by decide +kernel)]; exact ⟨rfl, rfl⟩))
    (fun os started H enc _ => lifted os started H enc)

theorem proved : Rows.ModelNilSaid := over
end Go.Proofs.Ytlhpcimbigfmkaa.modelNil
