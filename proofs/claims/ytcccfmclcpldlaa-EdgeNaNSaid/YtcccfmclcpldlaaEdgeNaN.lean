/-
  All that are no numbers are one, behind all others; whatever is asked of them ends. No conditions.
-/
import Derived.Test.YtcccfmclcpldlaaLaw
import Derived.Test.YtcccfmclcpldlaaTwo
namespace Go.Proofs.Ytcccfmclcpldlaa.edgeNaN
open Go.Proofs.Ytcccfmclcpldlaa Go.Proofs.Ytcccfmclcpldlaa.D Go.ChangeShapes Go.WideShapes Go.ChangeAt Go.RowKit

theorem nan_or (a C : Nat) (hC : inf < C % 2 ^ 63) : nan (a ||| C) = true := by
  unfold nan rung
  rw [decide_eq_true_eq, Nat.or_mod_two_pow]
  exact Nat.lt_of_lt_of_le hC Nat.right_le_or
theorem or_of (a C : Nat) (ha : a < 2 ^ 64) (hC : C < 2 ^ 64) (hn : inf < C % 2 ^ 63) : ∃ X : Nat, bits .or .u64 (a : Int) (C : Int) = (X : Int) ∧ X < 2 ^ 64 ∧ nan X = true := by
  refine ⟨a ||| C, ?_, Nat.or_lt_two_pow ha hC, nan_or a C hn⟩
  rw [u64_or _ _ (by omega) (by omega) (by omega) (by omega)]
  rfl

theorem div_nan {x y : Nat} (h : nan x = true) : divR x y = none := by
  unfold divR
  have e : Ieee.double.div x y = none := by
    unfold Ieee.Format.div
    rcases read_cases x with ⟨g, _⟩ | ⟨g, _⟩ | ⟨_, t, e⟩
    · unfold nan at h; simp at h; omega
    · unfold nan at h; simp at h; omega
    · rw [e]; rfl
  rw [e]; split <;> rfl

theorem bit_any (b : Bool) (w : World) : Calls Try.prog 34 #[.bool b] w fun e w' => e = .returned (.int .i64 (if b then 1 else 0)) ∧ w = w' := by
  cases b
  all_goals
    go_enter Try.func34, Try.ntmps34
    go_wp2_with fail
    go_ret
    exact ⟨rfl, rfl⟩

theorem rk_max {a : Nat} (h : nan a = true) : rk a = 9223372036854775807 := by unfold rk; rw [h]; rfl

set_option maxHeartbeats 2000000 in
theorem walk_nat (x y z : Nat) (a : Nat) (w : World) (hx : x < 2 ^ 64) (hy : y < 2 ^ 64) (hz : z < 2 ^ 64) (nx : nan x = true) (nz : nan z = true)
    (ea : bits .or .u64 (a : Int) 9218868437227405313 = (x : Int)) (eb : bits .or .u64 (y : Int) 18442240474082181121 = (z : Int)) :
    Calls Try.prog 9 #[.int .u64 a, .int .u64 y] w fun e w' => e = .returned (.bool true) ∧ Below w.heap.size w w' := by
  have o1 : (FloatKind.f64.format.order x x == some .eq) = false := by rw [eql_key, nx]; rfl
  have o2 : (FloatKind.f64.format.order z z == some .eq) = false := by rw [eql_key, nz]; rfl
  have D := Lib.hid (fun w => (div_any x y w hx hy).mono (R' := fun e w' => e = .returned (.tuple #[.float .f64 0, .bool false]) ∧ Below w.heap.size w w') fun e w' ⟨h, n, g⟩ => ⟨by rw [h]; unfold divV divB; rw [div_nan nx]; rfl, by rw [g]; exact below_drewN (Below.refl _ _) n⟩)
  have V := Lib.hid (fun w => (whole_any x w).mono (R' := fun e w' => e = .returned (.tuple #[.int .i64 0, .bool false]) ∧ w = w') fun e w' ⟨h, g⟩ => ⟨by rw [h]; unfold wholeV wholeB nearB; rw [nx]; rfl, g⟩)
  have S := Lib.hid (same_is x z hx hz true (by rw [rk_max nx, rk_max nz]; rfl))
  have C := Lib.hid (fun w => (clamp_any x y 4607182418800017408 w hx hy (by decide)).mono (R' := fun e w' => e = .returned (.float .f64 y) ∧ w = w') fun e w' ⟨h, g⟩ => ⟨by rw [h]; unfold clampW; rw [nx]; rfl, g⟩)
  have S2 := Lib.hid (same_is y y hy hy true (by simp))
  have S3 := Lib.hid (same_is (min2V x y) y (min2_lt hx hy) hy true (by unfold min2V; have := rk_le y; rw [rk_max nx]; split <;> simp <;> rw [rk_max nx]; omega))
  have S4 := Lib.hid (same_is (max2V y x) x (max2_lt hy hx) hx true (by unfold max2V; have := rk_le y; rw [rk_max nx]; split <;> simp; rw [rk_max nx]; omega))
  have B := Lib.hid bit_any
  have mn := Lib.hid (min2_any x y)
  have mx := Lib.hid (max2_any y x)
  have X := Lib.hid hx
  have Y := Lib.hid hy
  cases ny : nan y
  case true =>
    have o3 : (FloatKind.f64.format.order y y == some .eq) = false := by rw [eql_key, ny]; rfl
    have M := Lib.hid (cmp_is' x y hx hy 0 (by rw [rk_max nx, rk_max ny]; rfl))
    clear hx hy hz nx nz ny
    go_enter Try.func9, Try.ntmps9
    go_wp2_with fail
    refine (D.out _).mono ?_; rintro e w' ⟨rfl, hb1⟩
    go_wp2_with fail
    refine (V.out _).mono ?_; rintro e w' ⟨rfl, rfl⟩
    go_wp2_with fail
    refine (S.out _).mono ?_; rintro e w' ⟨rfl, rfl⟩
    go_wp2_with fail
    refine (M.out _).mono ?_; rintro e w' ⟨rfl, rfl⟩
    go_wp2_with fail
    refine (B.out _ _).mono ?_; rintro e w' ⟨rfl, rfl⟩
    go_wp2_with fail
    refine (C.out _).mono ?_; rintro e w' ⟨rfl, rfl⟩
    go_wp2_with fail
    refine (S2.out _).mono ?_; rintro e w' ⟨rfl, rfl⟩
    go_wp2_with fail
    refine (mn.out _ _ _ X.out Y.out (by go_simp) (by go_simp)).mono ?_; rintro e w2 ⟨rfl, rfl⟩
    go_wp2_with fail
    refine (S3.out _).mono ?_; rintro e w' ⟨rfl, rfl⟩
    go_wp2_with fail
    refine (mx.out _ _ _ Y.out X.out (by go_simp) (by go_simp)).mono ?_; rintro e w2 ⟨rfl, rfl⟩
    go_wp2_with fail
    refine (S4.out _).mono ?_; rintro e w' ⟨rfl, rfl⟩
    go_wp2_with fail
    refine (awake_any _).mono ?_; rintro e w2 ⟨rfl, hb⟩
    go_wp2_with fail
    go_ret
    exact ⟨rfl, below_two hb1 (by simp; omega) hb⟩
  case false =>
    have o3 : (FloatKind.f64.format.order y y == some .eq) = true := by rw [eql_key, ny]; simp
    have M := Lib.hid (cmp_is' x y hx hy 1 (by rw [rk_max nx]; have := rk_lt ny; unfold cmp3; rw [if_neg (by omega), if_pos (by omega)]))
    clear hx hy hz nx nz ny
    go_enter Try.func9, Try.ntmps9
    go_wp2_with fail
    refine (D.out _).mono ?_; rintro e w' ⟨rfl, hb1⟩
    go_wp2_with fail
    refine (V.out _).mono ?_; rintro e w' ⟨rfl, rfl⟩
    go_wp2_with fail
    refine (S.out _).mono ?_; rintro e w' ⟨rfl, rfl⟩
    go_wp2_with fail
    refine (M.out _).mono ?_; rintro e w' ⟨rfl, rfl⟩
    go_wp2_with fail
    refine (B.out _ _).mono ?_; rintro e w' ⟨rfl, rfl⟩
    go_wp2_with fail
    refine (C.out _).mono ?_; rintro e w' ⟨rfl, rfl⟩
    go_wp2_with fail
    refine (S2.out _).mono ?_; rintro e w' ⟨rfl, rfl⟩
    go_wp2_with fail
    refine (mn.out _ _ _ X.out Y.out (by go_simp) (by go_simp)).mono ?_; rintro e w2 ⟨rfl, rfl⟩
    go_wp2_with fail
    refine (S3.out _).mono ?_; rintro e w' ⟨rfl, rfl⟩
    go_wp2_with fail
    refine (mx.out _ _ _ Y.out X.out (by go_simp) (by go_simp)).mono ?_; rintro e w2 ⟨rfl, rfl⟩
    go_wp2_with fail
    refine (S4.out _).mono ?_; rintro e w' ⟨rfl, rfl⟩
    go_wp2_with fail
    refine (awake_any _).mono ?_; rintro e w2 ⟨rfl, hb⟩
    go_wp2_with fail
    go_ret
    exact ⟨rfl, below_two hb1 (by simp; omega) hb⟩

theorem walk (a0 a1 : Int) (w : World) (w0 : (Lit.int .u64 a0).wf = true) (w1 : (Lit.int .u64 a1).wf = true) :
    Calls Try.prog 9 #[.int .u64 a0, .int .u64 a1] w fun e w' => e = .returned (.bool true) ∧ Below w.heap.size w w' := by
  obtain ⟨a, rfl, ha⟩ := nat_of_u64 w0
  obtain ⟨y, rfl, hy⟩ := nat_of_u64 w1
  obtain ⟨x, ea, hx, nx⟩ := or_of a 9218868437227405313 ha (by decide) (by decide)
  obtain ⟨z, eb, hz, nz⟩ := or_of y 18442240474082181121 hy (by decide) (by decide)
  exact walk_nat x y z a w hx hy hz nx nz ea eb

set_option maxRecDepth 100000 in
theorem lifted (os : Os) (started : os.Started) (H : Type) (enc : TypeId × Value → H) :
    ReturnsInHanded {} Try.checked os 9 .any (Rows.edgeNaNSpec.pre6 enc Try.prog Try.f9 Rows.edgeNaNRow.domain false) (Rows.edgeNaNSpec.post enc Try.prog Try.f9 false true false false) := by
  refine returnsInHanded_of_change (C := Try.checked) own started (by kernel_rfl) Try.func9
    (ChangeSpec.witness6 (enc := enc) (C := Try.checked) false ⟨#[], #[.int .u64 0, .int .u64 0], []⟩ 8 (by kernel_rfl) (by kernel_rfl) (by kernel_rfl) (by kernel_rfl)) ?_
  intro W base args ds gs before hval0 hW hcnd _
  have hval : ∀ (j : Nat) t v, Try.f9.params[j]? = some t → args[j]? = some v → Value.okWide Try.prog W .any base t v := hval0
  have hW' := hW
  have hlt := hW.lt
  obtain ⟨p, q, hA0, hV, hpq, hfz, hnd⟩ := hW
  have hA : DataW.TrodAll enc Try.prog W 0 (fun _ => true) true Try.f9.params.toList args.toList ds p := hA0
  rw [Try.params9] at hA hval
  obtain ⟨v0, vs0, d0, ds0, p0, q0, hargs, rfl, hp, h0, r0⟩ := trodAll_cons hA
  obtain ⟨v1, vs1, d1, ds1, p1, q1, rfl, rfl, rfl, h1, r1⟩ := trodAll_cons r0
  obtain ⟨rfl, rfl, rfl⟩ := trodAll_nil r1
  obtain rfl : args = #[v0, v1] := by cases args; simp_all
  obtain ⟨rfl, rfl⟩ := trodVars_none hV
  have hlt' : ∀ x ∈ before, x.block < W.heap.size := fun x hx => hlt x hx
  obtain ⟨a0, rfl, rfl, rfl, w0⟩ := open_int Try.underlying22 (hval 0 22 v0 rfl rfl) h0
  obtain ⟨a1, rfl, rfl, rfl, w1⟩ := open_int Try.underlying22 (hval 1 22 v1 rfl rfl) h1
  refine (walk a0 a1 W w0 w1).mono fun e W' ⟨he, hb⟩ => ?_
  subst he
  exact ⟨_, rfl, law_post rfl (by kernel_rfl) hW' (by rw [Try.params9]; intro t ht; simp only [List.mem_cons, List.not_mem_nil, or_false] at ht; (repeat' (first | (rcases ht with rfl | ht) | subst ht)) <;> exact ⟨by kernel_rfl, of_decide_eq_true (by kernel_rfl)⟩) rfl hb⟩

theorem over : Rows.edgeNaNRow.holds Try.pinned (OpenSpec.ofChange Rows.edgeNaNSpec) :=
  OpenClaim.holds_of_wide 9 Try.f9 rfl rfl rfl rfl rfl rfl rfl ⟨rfl, rfl, rfl, rfl, rfl⟩ rfl rfl rfl rfl rfl (by kernel_rfl) Try.func9 (by kernel_rfl)
    (of_decide_eq_true (by kernel_rfl)) (by unfold Func.isWrapper; first | (rw [if_pos (by decide +kernel)]; kernel_rfl) | (rw [if_neg (by decide +kernel)]; exact ⟨rfl, rfl⟩))
    (fun os started H enc _ => lifted os started H enc)

theorem proved : Rows.EdgeNaNSaid := over
end Go.Proofs.Ytcccfmclcpldlaa.edgeNaN
