/-
  Lines that go round that there aren't; a memory that is too small, or a period that may not be. No conditions.
-/
import Derived.Test.YtjchmkgkibiadaaTnw
import Derived.Test.YtjchmkgkibiadaaPt
namespace Go.Proofs.Ytjchmkgkibiadaa.turnNil
open Go.Proofs.Ytjchmkgkibiadaa Go.ChangeShapes Go.WideShapes Go.ChangeAt Go.RowKit

set_option maxHeartbeats 4000000 in
theorem walk (c : Pt) (a1 : Int) (w : World) (hc : c.Wf) (_ : (Lit.int .i64 a1).wf = true) :
    Calls Try.prog 6 #[.agg (pc c), .int .i64 a1] w fun e w' => e = .returned (.bool true) ∧ Below w.heap.size w w' := by
  have LK := Lib.hid (newNv_tok (n := 5) (P := 0) (by decide) (by decide) (by decide) [])
  have K0 : Hid ((newNv 6 []).n ≤ 6 ∧ 5 < (newNv 6 []).n) := Lib.hid ⟨by decide, by decide⟩
  obtain ⟨s0, e0⟩ : ∃ s0, newNv 6 [] = s0 := ⟨_, rfl⟩
  have e0' : newNv (5 + 1 + 0) [] = s0 := e0
  rw [e0'] at LK
  rw [e0] at K0
  clear e0'
  have hl8 := hc.len
  obtain ⟨W0, hW0⟩ : ∃ W0, w.alloc (.cells (pc c) 35) = W0 := ⟨_, rfl⟩
  have P0 := Pv.new w hl8
  have B0 := bal (o := .cells (pc c) 35) (Below.refl w.heap.size w)
  rw [hW0] at P0 B0
  have PV := Lib.hid P0
  have BB := Lib.hid B0
  have c0 := P0.slot
  clear P0 B0 hc
  go_enter Try.func6, Try.ntmps6
  go_wp2_with fail
  refine (tget_nil _ _).mono ?_; rintro e w1 ⟨rfl, hb⟩
  obtain ⟨W1, hW1, H1⟩ := boxed1 w1 (a := [0, 0, 0, 0, 0, 0, 0, 0]) rfl
  have B1 := Lib.hid (below_more (below_more BB.out hb) H1.out.2)
  have P1 := Lib.hid ((PV.out.below hb).below H1.out.2)
  have L1 := Lib.hid H1.out.1
  have hst : (lineStore (.pointer (some ⟨w1.heap.size, 0, none⟩)) (.agg (lc zeros))).run Try.prog W1 = .ok () W1 := by rw [← hW1]; exact store_new w1 zeros zeros rfl rfl
  clear hb c0
  go_wp2_with fail
  refine (new_yes 6 _ [] _ (by decide) (by decide) (ri_nil _)).mono ?_; rintro e w2 ⟨g, rfl, hg, hN, hb⟩
  rw [e0] at hN
  have N2 := Lib.hid hN
  have B2 := Lib.hid (below_more B1.out hb)
  have P2 := Lib.hid (P1.out.below hb)
  have L2 := Lib.hid (L1.out.below hb)
  clear hN hg hb
  by_cases hp : 1 ≤ a1 ∧ a1 ≤ 1000
  · obtain ⟨per, rfl⟩ : ∃ per : Nat, a1 = per := ⟨a1.toNat, by omega⟩
    have hp1 : 1 ≤ per := by omega
    have hp2 : per ≤ 1000 := by omega
    have i1 : (per : Int) ≥ 1 := by omega
    have i2 : (per : Int) ≤ 1000 := by omega
    clear hp
    go_wp2_with fail
    refine (tnew_yes (per := per) LK.out (by decide) (by decide) hp1 hp2 (by decide) N2.out).mono ?_; rintro e w3 ⟨x, q, rfl, _, _, _, _, _, hb⟩
    have B3 := Lib.hid (below_more B2.out hb)
    have P3 := Lib.hid (P2.out.below hb)
    have N3 := Lib.hid (N2.out.below hb)
    have l3 := (L2.out.below hb).load
    have c0 := P3.out.slot
    have l4 := P3.out.line
    clear hb hp1 hp2
    go_wp2_with fail
    refine (tput_nil _ _ _).mono ?_; rintro e w4 ⟨rfl, hb⟩
    have B4 := Lib.hid (below_more B3.out hb)
    have N4 := Lib.hid (N3.out.below hb)
    clear hb c0 l3 l4
    go_wp2_with fail
    refine (tmv_nil _).mono ?_; rintro e w' ⟨rfl, rfl⟩
    go_wp2_with fail
    refine (tlines_nil _).mono ?_; rintro e w' ⟨rfl, rfl⟩
    go_wp2_with fail
    refine (tleft_nil _).mono ?_; rintro e w' ⟨rfl, rfl⟩
    go_wp2_with fail
    refine (tnew_null 5 0 1 _ (by decide)).mono ?_; rintro e w' ⟨rfl, rfl⟩
    go_wp2_with fail
    refine (tnew_few g s0 6 0 1 _ N4.out (by decide) K0.out.1).mono ?_; rintro e w' ⟨rfl, rfl⟩
    go_wp2_with fail
    refine (awake_any _).mono ?_; rintro e w7 ⟨rfl, hb⟩
    have B7 := Lib.hid (below_more B4.out hb)
    go_wp2
    go_ret
    exact ⟨rfl, B7.out⟩
  · have BP : Hid (a1 < 1 ∨ 1000 < a1) := Lib.hid (by omega)
    clear hp
    go_wp2_with fail
    refine (tnew_period g s0 5 0 a1 _ N2.out (by decide) K0.out.2 BP.out).mono ?_; rintro e w3 ⟨rfl, rfl⟩
    have B3 := B2
    have P3 := P2
    have N3 := N2
    have l3 := L2.out.load
    have c0 := P3.out.slot
    have l4 := P3.out.line
    by_cases h1 : a1 < 1
    · have i1 : ¬ a1 ≥ 1 := by omega
      clear h1
      go_wp2_with fail
      refine (tput_nil _ _ _).mono ?_; rintro e w4 ⟨rfl, hb⟩
      have B4 := Lib.hid (below_more B3.out hb)
      have N4 := Lib.hid (N3.out.below hb)
      clear hb c0 l3 l4
      go_wp2_with fail
      refine (tmv_nil _).mono ?_; rintro e w' ⟨rfl, rfl⟩
      go_wp2_with fail
      refine (tlines_nil _).mono ?_; rintro e w' ⟨rfl, rfl⟩
      go_wp2_with fail
      refine (tleft_nil _).mono ?_; rintro e w' ⟨rfl, rfl⟩
      go_wp2_with fail
      refine (tnew_null 5 0 1 _ (by decide)).mono ?_; rintro e w' ⟨rfl, rfl⟩
      go_wp2_with fail
      refine (tnew_few g s0 6 0 1 _ N4.out (by decide) K0.out.1).mono ?_; rintro e w' ⟨rfl, rfl⟩
      go_wp2_with fail
      refine (awake_any _).mono ?_; rintro e w7 ⟨rfl, hb⟩
      have B7 := Lib.hid (below_more B4.out hb)
      go_wp2
      go_ret
      exact ⟨rfl, B7.out⟩
    · have i1 : a1 ≥ 1 := by omega
      have i2 : decide (a1 ≤ 1000) = false := decide_eq_false (by have := BP.out; omega)
      clear h1
      go_wp2_with fail
      refine (tput_nil _ _ _).mono ?_; rintro e w4 ⟨rfl, hb⟩
      have B4 := Lib.hid (below_more B3.out hb)
      have N4 := Lib.hid (N3.out.below hb)
      clear hb c0 l3 l4
      go_wp2_with fail
      refine (tmv_nil _).mono ?_; rintro e w' ⟨rfl, rfl⟩
      go_wp2_with fail
      refine (tlines_nil _).mono ?_; rintro e w' ⟨rfl, rfl⟩
      go_wp2_with fail
      refine (tleft_nil _).mono ?_; rintro e w' ⟨rfl, rfl⟩
      go_wp2_with fail
      refine (tnew_null 5 0 1 _ (by decide)).mono ?_; rintro e w' ⟨rfl, rfl⟩
      go_wp2_with fail
      refine (tnew_few g s0 6 0 1 _ N4.out (by decide) K0.out.1).mono ?_; rintro e w' ⟨rfl, rfl⟩
      go_wp2_with fail
      refine (awake_any _).mono ?_; rintro e w7 ⟨rfl, hb⟩
      have B7 := Lib.hid (below_more B4.out hb)
      go_wp2
      go_ret
      exact ⟨rfl, B7.out⟩

set_option maxRecDepth 100000 in
theorem lifted (os : Os) (started : os.Started) (H : Type) (enc : TypeId × Value → H) :
    ReturnsInHanded {} Try.checked os 6 .any (Rows.turnNilSpec.pre6 enc Try.prog Try.f6 Rows.turnNilRow.domain false) (Rows.turnNilSpec.post enc Try.prog Try.f6 false true false false) := by
  refine returnsInHanded_of_change (C := Try.checked) own started (by kernel_rfl) Try.func6
    (ChangeSpec.witness6 (enc := enc) (C := Try.checked) false ⟨#[], #[.agg #[.int .i64 0, .int .u64 0, .int .u64 0, .int .u64 0, .int .u64 0, .int .u64 0, .int .u64 0, .int .u64 0, .int .u64 0], .int .i64 0], []⟩ 8 (by kernel_rfl) (by kernel_rfl) (by kernel_rfl) (by kernel_rfl)) ?_
  intro W base args ds gs before hval0 hW hcnd _
  have hval : ∀ (j : Nat) t v, Try.f6.params[j]? = some t → args[j]? = some v → Value.okWide Try.prog W .any base t v := hval0
  have hW' := hW
  have hlt := hW.lt
  obtain ⟨p, q, hA0, hV, hpq, hfz, hnd⟩ := hW
  have hA : DataW.TrodAll enc Try.prog W 0 (fun _ => true) true Try.f6.params.toList args.toList ds p := hA0
  rw [Try.params6] at hA hval
  obtain ⟨v0, vs0, d0, ds0, p0, q0, hargs, rfl, hp, h0, r0⟩ := trodAll_cons hA
  obtain ⟨v1, vs1, d1, ds1, p1, q1, rfl, rfl, rfl, h1, r1⟩ := trodAll_cons r0
  obtain ⟨rfl, rfl, rfl⟩ := trodAll_nil r1
  obtain rfl : args = #[v0, v1] := by cases args; simp_all
  obtain ⟨rfl, rfl⟩ := trodVars_none hV
  have hlt' : ∀ x ∈ before, x.block < W.heap.size := fun x hx => hlt x hx
  obtain ⟨c0, rfl, w0⟩ := put_in (hval 0 35 v0 rfl rfl) h0
  obtain ⟨a1, rfl, rfl, rfl, w1⟩ := open_int Try.underlying3 (hval 1 3 v1 rfl rfl) h1
  refine (walk c0 a1 W w0 w1).mono fun e W' ⟨he, hb⟩ => ?_
  subst he
  exact ⟨_, rfl, law_post rfl (by kernel_rfl) hW' (by rw [Try.params6]; intro t ht; simp only [List.mem_cons, List.not_mem_nil, or_false] at ht; (repeat' (first | (rcases ht with rfl | ht) | subst ht)) <;> exact ⟨by kernel_rfl, of_decide_eq_true (by kernel_rfl)⟩) rfl hb⟩

theorem over : Rows.turnNilRow.holds Try.pinned (OpenSpec.ofChange Rows.turnNilSpec) :=
  OpenClaim.holds_of_wide 6 Try.f6 rfl rfl rfl rfl rfl rfl rfl ⟨rfl, rfl, rfl, rfl, rfl⟩ rfl rfl rfl rfl rfl (by kernel_rfl) Try.func6 (by kernel_rfl)
    (of_decide_eq_true (by kernel_rfl)) (by unfold Func.isWrapper; first | (rw [if_pos (by decide +kernel)]; kernel_rfl) | (rw [if_neg (by decide +kernel)]; exact ⟨rfl, rfl⟩))
    (fun os started H enc _ => lifted os started H enc)

theorem proved : Rows.TurnNilSaid := over
end Go.Proofs.Ytjchmkgkibiadaa.turnNil
