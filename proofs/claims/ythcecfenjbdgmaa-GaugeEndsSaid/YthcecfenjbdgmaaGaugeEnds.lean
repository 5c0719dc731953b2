/-
  A line for ever has an endless life; one that lasts for nought has none from the first; a new one has all. No conditions.
-/
import Derived.Test.YthcecfenjbdgmaaGua
namespace Go.Proofs.Ythcecfenjbdgmaa.gaugeEnds
set_option maxRecDepth 100000
open Go.Proofs.Ythcecfenjbdgmaa Go.Proofs.Ythcecfenjbdgmaa.D Go.ChangeShapes Go.WideShapes Go.ChangeAt Go.RowKit

theorem all_of {L : Nat} (h1 : 1 ≤ L) (h2 : L ≤ 1000000) : ratV (hn (L : Int)) (hn (L : Int)) = 4607182418800017408 := by
  rw [hn_small h2]
  unfold ratV; rw [if_neg (by omega)]
  exact (part_one (Nat.le_refl L) h1 (by omega)).2.1.2 rfl
theorem e_ever (x : Int) {L : Nat} (h1 : 1 ≤ L) : lifeV x (-(L : Int)) = 9218868437227405312 := by
  unfold lifeV; rw [if_pos (by omega)]; rfl
theorem e_none (x : Int) : lifeV x 0 = 0 := by
  unfold lifeV; rw [if_neg (by omega), if_pos (by omega)]
theorem e_new {L : Nat} (h1 : 1 ≤ L) (h2 : L ≤ 1000000) : lifeV 0 (L : Int) = 4607182418800017408 := by
  have e : max (0 : Int) 0 = 0 := rfl
  unfold lifeV; rw [if_neg (by omega), if_neg (by omega), e, Int.sub_zero]; exact all_of h1 h2
theorem e_below {L : Nat} (h1 : 1 ≤ L) (h2 : L ≤ 1000000) : lifeV (-(L : Int)) (L : Int) = 4607182418800017408 := by
  have e : max (-(L : Int)) 0 = 0 := by omega
  unfold lifeV; rw [if_neg (by omega), if_neg (by omega), e, Int.sub_zero]; exact all_of h1 h2
theorem inf_wf : (9218868437227405312 : Nat) < 2 ^ 64 := by decide
theorem same_self (a : Nat) (ha : a < 2 ^ 64) (w : World) : Calls Try.prog 10 #[.float .f64 a, .float .f64 a] w fun e w' => e = .returned (.bool true) ∧ w = w' := same_is a a ha ha true (by simp) w

set_option maxHeartbeats 1000000 in
theorem walk (a0 a1 : Int) (w : World) (h0 : (Lit.int .i64 a0).wf = true) (_ : (Lit.int .i64 a1).wf = true) :
    Calls Try.prog 6 #[.int .i64 a0, .int .i64 a1] w fun e w' => e = .returned (.bool true) ∧ Below w.heap.size w w' := by
  obtain ⟨u, hu, _⟩ := u64_nat a1
  obtain ⟨L, hL⟩ : ∃ L, L = 1 + u % 1000000 := ⟨_, rfl⟩
  have h1 : 1 ≤ L := by omega
  have h2 : L ≤ 1000000 := by omega
  have t1 : (u : Int).tmod 1000000 = (L : Int) - 1 := by have h := tmod_nat u 1000000; rw [show ((1000000 : Nat) : Int) = 1000000 from rfl] at h; omega
  have k1 : IntKind.i64.wrap ((L : Int) - 1) = (L : Int) - 1 := isN _ (by omega) (by omega)
  have t3 : (1 : Int) + ((L : Int) - 1) = (L : Int) := by omega
  have k2 : IntKind.i64.wrap (L : Int) = (L : Int) := isN _ (by omega) (by omega)
  have k3 : IntKind.i64.wrap (-(L : Int)) = -(L : Int) := isN _ (by omega) (by omega)
  have o1 : (FloatKind.f64.format.order 4607182418800017408 4607182418800017408 == some .eq) = true := by decide +kernel
  have wl : (Lit.int .i64 (L : Int)).wf = true := i64_of (by omega) (by omega)
  have wn : (Lit.int .i64 (-(L : Int))).wf = true := i64_of (by omega) (by omega)
  have F1 := Lib.hid (fun w => life_w a0 (-(L : Int)) _ w (e_ever a0 h1) h0 wn)
  have F2 := Lib.hid (fun w => life_w 0 (-1) 9218868437227405312 w rfl rfl rfl)
  have F3 := Lib.hid (fun w => life_w a0 0 _ w (e_none a0) h0 rfl)
  have F4 := Lib.hid (fun w => life_w 0 (L : Int) _ w (e_new h1 h2) rfl wl)
  have F5 := Lib.hid (fun w => life_w (-(L : Int)) (L : Int) _ w (e_below h1 h2) wn wl)
  have C1 := Lib.hid (cmp_is' 9218868437227405312 4607182418800017408 inf_wf (by decide) 1 (by decide))
  have B0 := Lib.hid (Below.refl w.heap.size w)
  clear hL h1 h2 wl wn h0
  go_enter Try.func6, Try.ntmps6
  go_wp2_with fail
  refine (F1.out _).mono ?_; rintro e w1 ⟨rfl, hb⟩
  have B1 := Lib.hid (below_more B0.out hb)
  clear hb
  go_wp2_with fail
  refine (F2.out _).mono ?_; rintro e w2 ⟨rfl, hb⟩
  have B2 := Lib.hid (below_more B1.out hb)
  clear hb
  go_wp2_with fail
  refine (same_self _ inf_wf _).mono ?_; rintro e w' ⟨rfl, rfl⟩
  go_wp2_with fail
  refine (C1.out _).mono ?_; rintro e w' ⟨rfl, rfl⟩
  go_wp2_with fail
  refine (F3.out _).mono ?_; rintro e w3 ⟨rfl, hb⟩
  have B3 := Lib.hid (below_more B2.out hb)
  clear hb
  go_wp2_with fail
  refine (same_self _ (by decide) _).mono ?_; rintro e w' ⟨rfl, rfl⟩
  go_wp2_with fail
  refine (F4.out _).mono ?_; rintro e w4 ⟨rfl, hb⟩
  have B4 := Lib.hid (below_more B3.out hb)
  clear hb
  go_wp2_with fail
  refine (F5.out _).mono ?_; rintro e w5 ⟨rfl, hb⟩
  have B5 := Lib.hid (below_more B4.out hb)
  clear hb
  go_wp2_with fail
  refine (awake_any _).mono ?_; rintro e w6 ⟨rfl, hb⟩
  go_wp2_with fail
  go_ret
  exact ⟨rfl, below_more B5.out hb⟩

set_option maxRecDepth 100000 in
theorem lifted (os : Os) (started : os.Started) (H : Type) (enc : TypeId × Value → H) :
    ReturnsInHanded {} Try.checked os 6 .any (Rows.gaugeEndsSpec.pre6 enc Try.prog Try.f6 Rows.gaugeEndsRow.domain false) (Rows.gaugeEndsSpec.post enc Try.prog Try.f6 false true false false) := by
  refine returnsInHanded_of_change (C := Try.checked) own started (by kernel_rfl) Try.func6
    (ChangeSpec.witness6 (enc := enc) (C := Try.checked) false ⟨#[], #[.int .i64 0, .int .i64 0], []⟩ 8 (by kernel_rfl) (by kernel_rfl) (by kernel_rfl) (by kernel_rfl)) ?_
  intro W base args ds gs before hval0 hW hcnd _
  have hval : ∀ (j : Nat) t v, Try.f6.params[j]? = some t → args[j]? = some v → Value.okWide Try.prog W .any base t v := hval0
  have hW' := hW
  have hlt := hW.lt
  obtain ⟨p, q, hA0, hV, hpq, hfz, hnd⟩ := hW
  have hA : DataW.TrodAll enc Try.prog W 0 (fun _ => true) true Try.f6.params.toList args.toList ds p := hA0
  rw [Try.params6] at hA hval
  obtain ⟨v0, vs0, d0, ds0, p0, q0, hargs, rfl, hp, h0, r0⟩ := trodAll_cons hA
  obtain ⟨v1, vs1, d1, ds1, p1, q1, rfl, rfl, rfl, h1, r1⟩ := trodAll_cons r0
  obtain ⟨rfl, rfl, rfl⟩ := trodAll_nil r1
  obtain rfl : args = #[v0, v1] := by cases args; simp_all
  obtain ⟨rfl, rfl⟩ := trodVars_none hV
  have hlt' : ∀ x ∈ before, x.block < W.heap.size := fun x hx => hlt x hx
  obtain ⟨a0, rfl, rfl, rfl, w0⟩ := open_int Try.underlying3 (hval 0 3 v0 rfl rfl) h0
  obtain ⟨a1, rfl, rfl, rfl, w1⟩ := open_int Try.underlying3 (hval 1 3 v1 rfl rfl) h1
  refine (walk a0 a1 W w0 w1).mono fun e W' ⟨he, hb⟩ => ?_
  subst he
  exact ⟨_, rfl, law_post rfl (by kernel_rfl) hW' (by rw [Try.params6]; intro t ht; simp only [List.mem_cons, List.not_mem_nil, or_false] at ht; (repeat' (first | (rcases ht with rfl | ht) | subst ht)) <;> exact ⟨by kernel_rfl, of_decide_eq_true (by kernel_rfl)⟩) rfl hb⟩

theorem over : Rows.gaugeEndsRow.holds Try.pinned (OpenSpec.ofChange Rows.gaugeEndsSpec) :=
  OpenClaim.holds_of_wide 6 Try.f6 rfl rfl rfl rfl rfl rfl rfl ⟨rfl, rfl, rfl, rfl, rfl⟩ rfl rfl rfl rfl rfl (by kernel_rfl) Try.func6 (by kernel_rfl)
    (of_decide_eq_true (by kernel_rfl)) (by unfold Func.isWrapper; first | (rw [if_pos (by decide +kernel)]; kernel_rfl) | (rw [if_neg (by decide +kernel)]; exact ⟨rfl, rfl⟩))
    (fun os started H enc _ => lifted os started H enc)

theorem proved : Rows.GaugeEndsSaid := over
end Go.Proofs.Ythcecfenjbdgmaa.gaugeEnds
