/-
  The nought with a sign is ahead of the one without, and behind all that is below nought. No conditions.
-/
import Derived.Test.YtcccfmclcpldlaaLaw
import Derived.Test.YtcccfmclcpldlaaTwo
namespace Go.Proofs.Ytcccfmclcpldlaa.edgeNoughts
open Go.Proofs.Ytcccfmclcpldlaa Go.Proofs.Ytcccfmclcpldlaa.D Go.ChangeShapes Go.WideShapes Go.ChangeAt Go.RowKit

theorem s1 (w : World) : Calls Try.prog 21 #[.float .f64 9223372036854775808, .float .f64 0] w fun e w' => e = .returned (.bool false) ∧ w = w' := same_is _ _ (by decide) (by decide) false (by decide +kernel) w
theorem s2 (w : World) : Calls Try.prog 21 #[.float .f64 0, .float .f64 0] w fun e w' => e = .returned (.bool true) ∧ w = w' := same_is _ _ (by decide) (by decide) true (by decide +kernel) w
theorem s3 (w : World) : Calls Try.prog 21 #[.float .f64 9223372036854775808, .float .f64 9223372036854775808] w fun e w' => e = .returned (.bool true) ∧ w = w' := same_is _ _ (by decide) (by decide) true (by decide +kernel) w
theorem mx1 (b cap : Nat) (w : World) (h0 : w.cell? ⟨b, 0, none⟩ = some (.float .f64 9223372036854775808)) (h1 : w.cell? ⟨b, 1, none⟩ = some (.float .f64 0)) :
    Calls Try.prog 27 #[.slice (some ⟨b, 0, none⟩) 2 cap] w fun e w' => e = .returned (.float .f64 0) ∧ w = w' :=
  (max2_any _ _ b cap w (by decide) (by decide) h0 h1).mono fun e w' ⟨h, g⟩ => ⟨by rw [h]; refine ret_f64 ?_; decide +kernel, g⟩
theorem mn1 (b cap : Nat) (w : World) (h0 : w.cell? ⟨b, 0, none⟩ = some (.float .f64 0)) (h1 : w.cell? ⟨b, 1, none⟩ = some (.float .f64 9223372036854775808)) :
    Calls Try.prog 25 #[.slice (some ⟨b, 0, none⟩) 2 cap] w fun e w' => e = .returned (.float .f64 9223372036854775808) ∧ w = w' :=
  (min2_any _ _ b cap w (by decide) (by decide) h0 h1).mono fun e w' ⟨h, g⟩ => ⟨by rw [h]; refine ret_f64 ?_; decide +kernel, g⟩
theorem cl1 (w : World) : Calls Try.prog 29 #[.float .f64 9223372036854775808, .float .f64 0, .float .f64 4607182418800017408] w fun e w' => e = .returned (.float .f64 0) ∧ w = w' :=
  (clamp_any _ _ _ w (by decide) (by decide) (by decide)).mono fun e w' ⟨h, g⟩ => ⟨by rw [h]; refine ret_f64 ?_; decide +kernel, g⟩
theorem cl2 (w : World) : Calls Try.prog 29 #[.float .f64 0, .float .f64 13830554455654793216, .float .f64 9223372036854775808] w fun e w' => e = .returned (.float .f64 9223372036854775808) ∧ w = w' :=
  (clamp_any _ _ _ w (by decide) (by decide) (by decide)).mono fun e w' ⟨h, g⟩ => ⟨by rw [h]; refine ret_f64 ?_; decide +kernel, g⟩
theorem wh1 (w : World) : Calls Try.prog 17 #[.float .f64 9223372036854775808] w fun e w' => e = .returned (.tuple #[.int .i64 0, .bool true]) ∧ w = w' :=
  (whole_any _ w).mono fun e w' ⟨h, g⟩ => ⟨by rw [h]; refine ret_whole ?_ ?_ <;> decide +kernel, g⟩

def Kind (x : Nat) : Prop :=
  ((FloatKind.f64.format.order x 0 == some .gt) = true ∧ cmp3 (rk x) (rk 0) = 1) ∨
  ((FloatKind.f64.format.order x 0 == some .gt) = false ∧ (FloatKind.f64.format.order x 0 == some .eq) = true) ∨
  ((FloatKind.f64.format.order x 0 == some .gt) = false ∧ (FloatKind.f64.format.order x 0 == some .eq) = false ∧ (FloatKind.f64.format.order x x != some .eq) = true) ∨
  ((FloatKind.f64.format.order x 0 == some .gt) = false ∧ (FloatKind.f64.format.order x 0 == some .eq) = false ∧ (FloatKind.f64.format.order x x != some .eq) = false ∧ cmp3 (rk x) (rk 9223372036854775808) = -1)

theorem kind (x : Nat) : Kind x := by
  have hs : (FloatKind.f64.format.order x x != some .eq) = nan x := ne_self x
  have r1 : rk 0 = 0 := by decide +kernel
  have r2 : rk 9223372036854775808 = -1 := by decide +kernel
  unfold Kind
  rw [eql_key, gtr_key, hs, nan_zero, key_zero, r1, r2]
  cases hn : nan x
  · simp only [Bool.not_false, Bool.true_and, decide_eq_true_eq, decide_eq_false_iff_not]
    rcases Int.lt_trichotomy (key x) 0 with h | h | h
    · refine .inr (.inr (.inr ⟨by omega, by omega, trivial, ?_⟩))
      unfold cmp3; rw [if_pos]
      unfold rk; rw [hn]; unfold key at h
      revert h; cases sgn x <;> simp <;> omega
    · exact .inr (.inl ⟨by omega, h⟩)
    · refine .inl ⟨h, ?_⟩
      have : 0 < rk x := by unfold rk; rw [hn]; unfold key at h; revert h; cases sgn x <;> simp <;> omega
      unfold cmp3; rw [if_neg (by omega), if_pos this]
  · refine .inr (.inr (.inl ?_)); simp

set_option maxHeartbeats 2000000 in
theorem walk_nat (x : Nat) (w : World) (hx : x < 2 ^ 64) :
    Calls Try.prog 10 #[.int .u64 x] w fun e w' => e = .returned (.bool true) ∧ Below w.heap.size w w' := by
  have M1 := Lib.hid (cmp_is' x 0 hx (by decide))
  have M2 := Lib.hid (cmp_is' x 9223372036854775808 hx (by decide))
  clear hx
  rcases kind x with ⟨o1, k⟩ | ⟨o1, o2⟩ | ⟨o1, o2, o3⟩ | ⟨o1, o2, o3, k⟩
  · have M := Lib.hid (M1.out 1 k)
    clear k M1 M2
    go_enter Try.func10, Try.ntmps10
    go_wp2_with fail
    refine (copysign_neg _).mono ?_; rintro e w' ⟨rfl, rfl⟩
    go_wp2_with fail
    refine (c_cmp1 _).mono ?_; rintro e w' ⟨rfl, rfl⟩
    go_wp2_with fail
    refine (s1 _).mono ?_; rintro e w' ⟨rfl, rfl⟩
    go_wp2_with fail
    refine (mx1 _ _ _ (by go_simp) (by go_simp)).mono ?_; rintro e w' ⟨rfl, rfl⟩
    go_wp2_with fail
    refine (s2 _).mono ?_; rintro e w' ⟨rfl, rfl⟩
    go_wp2_with fail
    refine (mn1 _ _ _ (by go_simp) (by go_simp)).mono ?_; rintro e w' ⟨rfl, rfl⟩
    go_wp2_with fail
    refine (s3 _).mono ?_; rintro e w' ⟨rfl, rfl⟩
    go_wp2_with fail
    refine (cl1 _).mono ?_; rintro e w' ⟨rfl, rfl⟩
    go_wp2_with fail
    refine (s2 _).mono ?_; rintro e w' ⟨rfl, rfl⟩
    go_wp2_with fail
    refine (cl2 _).mono ?_; rintro e w' ⟨rfl, rfl⟩
    go_wp2_with fail
    refine (s3 _).mono ?_; rintro e w' ⟨rfl, rfl⟩
    go_wp2_with fail
    refine (wh1 _).mono ?_; rintro e w' ⟨rfl, rfl⟩
    go_wp2_with fail
    refine (M.out _).mono ?_; rintro e w' ⟨rfl, rfl⟩
    go_wp2_with fail
    refine (awake_any _).mono ?_; rintro e w2 ⟨rfl, hb⟩
    go_wp2_with fail
    go_ret
    exact ⟨rfl, below_two (Below.refl _ _) (by simp; omega) hb⟩
  · clear M1 M2
    go_enter Try.func10, Try.ntmps10
    go_wp2_with fail
    refine (copysign_neg _).mono ?_; rintro e w' ⟨rfl, rfl⟩
    go_wp2_with fail
    refine (c_cmp1 _).mono ?_; rintro e w' ⟨rfl, rfl⟩
    go_wp2_with fail
    refine (s1 _).mono ?_; rintro e w' ⟨rfl, rfl⟩
    go_wp2_with fail
    refine (mx1 _ _ _ (by go_simp) (by go_simp)).mono ?_; rintro e w' ⟨rfl, rfl⟩
    go_wp2_with fail
    refine (s2 _).mono ?_; rintro e w' ⟨rfl, rfl⟩
    go_wp2_with fail
    refine (mn1 _ _ _ (by go_simp) (by go_simp)).mono ?_; rintro e w' ⟨rfl, rfl⟩
    go_wp2_with fail
    refine (s3 _).mono ?_; rintro e w' ⟨rfl, rfl⟩
    go_wp2_with fail
    refine (cl1 _).mono ?_; rintro e w' ⟨rfl, rfl⟩
    go_wp2_with fail
    refine (s2 _).mono ?_; rintro e w' ⟨rfl, rfl⟩
    go_wp2_with fail
    refine (cl2 _).mono ?_; rintro e w' ⟨rfl, rfl⟩
    go_wp2_with fail
    refine (s3 _).mono ?_; rintro e w' ⟨rfl, rfl⟩
    go_wp2_with fail
    refine (wh1 _).mono ?_; rintro e w' ⟨rfl, rfl⟩
    go_wp2_with fail
    refine (awake_any _).mono ?_; rintro e w2 ⟨rfl, hb⟩
    go_wp2_with fail
    go_ret
    exact ⟨rfl, below_two (Below.refl _ _) (by simp; omega) hb⟩
  · clear M1 M2
    go_enter Try.func10, Try.ntmps10
    go_wp2_with fail
    refine (copysign_neg _).mono ?_; rintro e w' ⟨rfl, rfl⟩
    go_wp2_with fail
    refine (c_cmp1 _).mono ?_; rintro e w' ⟨rfl, rfl⟩
    go_wp2_with fail
    refine (s1 _).mono ?_; rintro e w' ⟨rfl, rfl⟩
    go_wp2_with fail
    refine (mx1 _ _ _ (by go_simp) (by go_simp)).mono ?_; rintro e w' ⟨rfl, rfl⟩
    go_wp2_with fail
    refine (s2 _).mono ?_; rintro e w' ⟨rfl, rfl⟩
    go_wp2_with fail
    refine (mn1 _ _ _ (by go_simp) (by go_simp)).mono ?_; rintro e w' ⟨rfl, rfl⟩
    go_wp2_with fail
    refine (s3 _).mono ?_; rintro e w' ⟨rfl, rfl⟩
    go_wp2_with fail
    refine (cl1 _).mono ?_; rintro e w' ⟨rfl, rfl⟩
    go_wp2_with fail
    refine (s2 _).mono ?_; rintro e w' ⟨rfl, rfl⟩
    go_wp2_with fail
    refine (cl2 _).mono ?_; rintro e w' ⟨rfl, rfl⟩
    go_wp2_with fail
    refine (s3 _).mono ?_; rintro e w' ⟨rfl, rfl⟩
    go_wp2_with fail
    refine (wh1 _).mono ?_; rintro e w' ⟨rfl, rfl⟩
    go_wp2_with fail
    refine (awake_any _).mono ?_; rintro e w2 ⟨rfl, hb⟩
    go_wp2_with fail
    go_ret
    exact ⟨rfl, below_two (Below.refl _ _) (by simp; omega) hb⟩
  · have M := Lib.hid (M2.out (-1) k)
    clear k M1 M2
    go_enter Try.func10, Try.ntmps10
    go_wp2_with fail
    refine (copysign_neg _).mono ?_; rintro e w' ⟨rfl, rfl⟩
    go_wp2_with fail
    refine (c_cmp1 _).mono ?_; rintro e w' ⟨rfl, rfl⟩
    go_wp2_with fail
    refine (s1 _).mono ?_; rintro e w' ⟨rfl, rfl⟩
    go_wp2_with fail
    refine (mx1 _ _ _ (by go_simp) (by go_simp)).mono ?_; rintro e w' ⟨rfl, rfl⟩
    go_wp2_with fail
    refine (s2 _).mono ?_; rintro e w' ⟨rfl, rfl⟩
    go_wp2_with fail
    refine (mn1 _ _ _ (by go_simp) (by go_simp)).mono ?_; rintro e w' ⟨rfl, rfl⟩
    go_wp2_with fail
    refine (s3 _).mono ?_; rintro e w' ⟨rfl, rfl⟩
    go_wp2_with fail
    refine (cl1 _).mono ?_; rintro e w' ⟨rfl, rfl⟩
    go_wp2_with fail
    refine (s2 _).mono ?_; rintro e w' ⟨rfl, rfl⟩
    go_wp2_with fail
    refine (cl2 _).mono ?_; rintro e w' ⟨rfl, rfl⟩
    go_wp2_with fail
    refine (s3 _).mono ?_; rintro e w' ⟨rfl, rfl⟩
    go_wp2_with fail
    refine (wh1 _).mono ?_; rintro e w' ⟨rfl, rfl⟩
    go_wp2_with fail
    refine (M.out _).mono ?_; rintro e w' ⟨rfl, rfl⟩
    go_wp2_with fail
    refine (awake_any _).mono ?_; rintro e w2 ⟨rfl, hb⟩
    go_wp2_with fail
    go_ret
    exact ⟨rfl, below_two (Below.refl _ _) (by simp; omega) hb⟩

theorem walk (a0 : Int) (w : World) (w0 : (Lit.int .u64 a0).wf = true) :
    Calls Try.prog 10 #[.int .u64 a0] w fun e w' => e = .returned (.bool true) ∧ Below w.heap.size w w' := by
  obtain ⟨x, rfl, hx⟩ := nat_of_u64 w0
  exact walk_nat x w hx

set_option maxRecDepth 100000 in
theorem lifted (os : Os) (started : os.Started) (H : Type) (enc : TypeId × Value → H) :
    ReturnsInHanded {} Try.checked os 10 .any (Rows.edgeNoughtsSpec.pre6 enc Try.prog Try.f10 Rows.edgeNoughtsRow.domain false) (Rows.edgeNoughtsSpec.post enc Try.prog Try.f10 false true false false) := by
  refine returnsInHanded_of_change (C := Try.checked) own started (by kernel_rfl) Try.func10
    (ChangeSpec.witness6 (enc := enc) (C := Try.checked) false ⟨#[], #[.int .u64 0], []⟩ 8 (by kernel_rfl) (by kernel_rfl) (by kernel_rfl) (by kernel_rfl)) ?_
  intro W base args ds gs before hval0 hW hcnd _
  have hval : ∀ (j : Nat) t v, Try.f10.params[j]? = some t → args[j]? = some v → Value.okWide Try.prog W .any base t v := hval0
  have hW' := hW
  have hlt := hW.lt
  obtain ⟨p, q, hA0, hV, hpq, hfz, hnd⟩ := hW
  have hA : DataW.TrodAll enc Try.prog W 0 (fun _ => true) true Try.f10.params.toList args.toList ds p := hA0
  rw [Try.params10] at hA hval
  obtain ⟨v0, vs0, d0, ds0, p0, q0, hargs, rfl, hp, h0, r0⟩ := trodAll_cons hA
  obtain ⟨rfl, rfl, rfl⟩ := trodAll_nil r0
  obtain rfl : args = #[v0] := by cases args; simp_all
  obtain ⟨rfl, rfl⟩ := trodVars_none hV
  have hlt' : ∀ x ∈ before, x.block < W.heap.size := fun x hx => hlt x hx
  obtain ⟨a0, rfl, rfl, rfl, w0⟩ := open_int Try.underlying22 (hval 0 22 v0 rfl rfl) h0
  refine (walk a0 W w0).mono fun e W' ⟨he, hb⟩ => ?_
  subst he
  exact ⟨_, rfl, law_post rfl (by kernel_rfl) hW' (by rw [Try.params10]; intro t ht; simp only [List.mem_cons, List.not_mem_nil, or_false] at ht; (repeat' (first | (rcases ht with rfl | ht) | subst ht)) <;> exact ⟨by kernel_rfl, of_decide_eq_true (by kernel_rfl)⟩) rfl hb⟩

theorem over : Rows.edgeNoughtsRow.holds Try.pinned (OpenSpec.ofChange Rows.edgeNoughtsSpec) :=
  OpenClaim.holds_of_wide 10 Try.f10 rfl rfl rfl rfl rfl rfl rfl ⟨rfl, rfl, rfl, rfl, rfl⟩ rfl rfl rfl rfl rfl (by kernel_rfl) Try.func10 (by kernel_rfl)
    (of_decide_eq_true (by kernel_rfl)) (by unfold Func.isWrapper; first | (rw [if_pos (by decide +kernel)]; kernel_rfl) | (rw [if_neg (by decide +kernel)]; exact ⟨rfl, rfl⟩))
    (fun os started H enc _ => lifted os started H enc)

theorem proved : Rows.EdgeNoughtsSaid := over
end Go.Proofs.Ytcccfmclcpldlaa.edgeNoughts
