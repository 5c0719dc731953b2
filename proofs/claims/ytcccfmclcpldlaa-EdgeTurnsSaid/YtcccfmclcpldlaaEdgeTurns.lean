/-
  With the sign turned the order is turned, but for what is no number. No conditions.
-/
import Derived.Test.YtcccfmclcpldlaaLaw
import Derived.Test.YtcccfmclcpldlaaTwo
namespace Go.Proofs.Ytcccfmclcpldlaa.edgeTurns
open Go.Proofs.Ytcccfmclcpldlaa Go.Proofs.Ytcccfmclcpldlaa.D Go.ChangeShapes Go.WideShapes Go.ChangeAt Go.RowKit

/-- the word with its sign turned -/
theorem neg_word (x : Nat) (hx : x < 2 ^ 64) : ∃ X : Nat, Op.negFloat .f64 x = X ∧ X < 2 ^ 64 ∧ (nan x = false → rk X = -1 - rk x) := by
  have e : Op.negFloat .f64 x = x ^^^ 2 ^ 63 := rfl
  have hlt : x ^^^ 2 ^ 63 < 2 ^ 64 := Nat.xor_lt_two_pow hx (by decide)
  have hr : rung (x ^^^ 2 ^ 63) = rung x := by
    unfold rung; rw [Nat.xor_mod_two_pow]; simp
  have hs : sgn (x ^^^ 2 ^ 63) = !sgn x := by
    have h1 : (x ^^^ 2 ^ 63) / 2 ^ 63 = (x / 2 ^ 63) ^^^ 1 := by
      rw [Nat.xor_div_two_pow]
    unfold sgn
    rw [h1]
    have : x / 2 ^ 63 = 0 ∨ x / 2 ^ 63 = 1 := by omega
    rcases this with h | h <;> rw [h] <;> rfl
  refine ⟨_, e, hlt, fun hn => ?_⟩
  have hn' : nan (x ^^^ 2 ^ 63) = false := by unfold nan; rw [hr]; exact hn
  unfold rk; rw [hn, hn', hs, hr]
  cases sgn x <;> simp <;> omega

theorem run_neg (P : Program) (x X : Nat) (h : Op.negFloat .f64 x = X) (w : World) : (Op.unary .neg (.float .f64 x)).run P w = .ok (.float .f64 X) w := by rw [← h]; rfl

theorem c_lt {x y : Int} (h : x < y) : cmp3 x y = -1 := by unfold cmp3; rw [if_pos h]
theorem c_gt {x y : Int} (h : y < x) : cmp3 x y = 1 := by unfold cmp3; rw [if_neg (by omega), if_pos h]
theorem c_eq {x y : Int} (h : x = y) : cmp3 x y = 0 := by unfold cmp3; rw [if_neg (by omega), if_neg (by omega)]

set_option maxHeartbeats 2000000 in
theorem walk_nat (x y : Nat) (w : World) (hx : x < 2 ^ 64) (hy : y < 2 ^ 64) :
    Calls Try.prog 11 #[.int .u64 x, .int .u64 y] w fun e w' => e = .returned (.bool true) ∧ Below w.heap.size w w' := by
  have n1 : (FloatKind.f64.format.order x x != some .eq) = nan x := ne_self x
  have n2 : (FloatKind.f64.format.order y y != some .eq) = nan y := ne_self y
  cases hn : nan x
  case true =>
    rw [hn] at n1
    clear n2 hn
    go_enter Try.func11, Try.ntmps11
    go_wp2_with fail
    refine (awake_any _).mono ?_; rintro e w' ⟨rfl, hb⟩
    go_wp2_with fail
    go_ret
    exact ⟨rfl, hb⟩
  case false =>
  rw [hn] at n1
  cases hm : nan y
  case true =>
    rw [hm] at n2
    clear hm hn
    go_enter Try.func11, Try.ntmps11
    go_wp2_with fail
    refine (awake_any _).mono ?_; rintro e w' ⟨rfl, hb⟩
    go_wp2_with fail
    go_ret
    exact ⟨rfl, hb⟩
  case false =>
  rw [hm] at n2
  obtain ⟨X, eX, hX, gX⟩ := neg_word x hx
  obtain ⟨Y, eY, hY, gY⟩ := neg_word y hy
  obtain ⟨Z, eZ, hZ, gZ⟩ := neg_word (max2V x y) (max2_lt hx hy)
  have gX := gX hn
  have gY := gY hm
  have gZ := gZ (by unfold max2V; split <;> assumption)
  have rX := run_neg Try.prog x X eX
  have rY := run_neg Try.prog y Y eY
  have rZ := run_neg Try.prog (max2V x y) Z eZ
  have mn := Lib.hid (fun b cap w => min2_any X Y b cap w hX hY)
  have mx := Lib.hid (fun b cap w => max2_any x y b cap w hx hy)
  have S := Lib.hid (same_is (min2V X Y) Z (min2_lt hX hY) hZ true (by rw [gZ]; unfold min2V max2V; rw [gX, gY]; split <;> split <;> simp <;> omega))
  have T : Hid (∃ c d : Int, cmp3 (rk X) (rk Y) = c ∧ cmp3 (rk x) (rk y) = d ∧ ((c = 1 ∧ d = -1) ∨ (c = 0 ∧ d = 0) ∨ (c = -1 ∧ d = 1))) := Lib.hid (by
    refine ⟨_, _, rfl, rfl, ?_⟩
    rw [gX, gY]
    rcases Int.lt_trichotomy (rk x) (rk y) with h | h | h
    · exact .inl ⟨c_gt (by omega), c_lt h⟩
    · exact .inr (.inl ⟨c_eq (by omega), c_eq h⟩)
    · exact .inr (.inr ⟨c_lt (by omega), c_gt h⟩))
  have M1 := Lib.hid (cmp_is' X Y hX hY)
  have M2 := Lib.hid (cmp_is' x y hx hy)
  generalize max2V x y = m at *
  generalize min2V X Y = k at *
  clear hn hm eX eY eZ hX hY hZ gX gY gZ hx hy
  obtain ⟨c, d, hc, hd, h⟩ := T.out
  have M1 := Lib.hid (M1.out c hc)
  have M2 := Lib.hid (M2.out d hd)
  clear hc hd T
  rcases h with ⟨rfl, rfl⟩ | ⟨rfl, rfl⟩ | ⟨rfl, rfl⟩
  all_goals
    go_enter Try.func11, Try.ntmps11
    go_wp2_with fail
    refine (M1.out _).mono ?_; rintro e w' ⟨rfl, rfl⟩
    go_wp2_with fail
    refine (M2.out _).mono ?_; rintro e w' ⟨rfl, rfl⟩
    go_wp2_with fail
    refine (mn.out _ _ _ (by go_simp) (by go_simp)).mono ?_; rintro e w' ⟨rfl, rfl⟩
    go_wp2_with fail
    refine (mx.out _ _ _ (by go_simp) (by go_simp)).mono ?_; rintro e w' ⟨rfl, rfl⟩
    go_wp2_with fail
    refine (S.out _).mono ?_; rintro e w' ⟨rfl, rfl⟩
    go_wp2_with fail
    refine (awake_any _).mono ?_; rintro e w2 ⟨rfl, hb⟩
    go_wp2_with fail
    go_ret
    exact ⟨rfl, below_two (Below.refl _ _) (by simp; omega) hb⟩

theorem walk (a0 a1 : Int) (w : World) (w0 : (Lit.int .u64 a0).wf = true) (w1 : (Lit.int .u64 a1).wf = true) :
    Calls Try.prog 11 #[.int .u64 a0, .int .u64 a1] w fun e w' => e = .returned (.bool true) ∧ Below w.heap.size w w' := by
  obtain ⟨x, rfl, hx⟩ := nat_of_u64 w0
  obtain ⟨y, rfl, hy⟩ := nat_of_u64 w1
  exact walk_nat x y w hx hy

set_option maxRecDepth 100000 in
theorem lifted (os : Os) (started : os.Started) (H : Type) (enc : TypeId × Value → H) :
    ReturnsInHanded {} Try.checked os 11 .any (Rows.edgeTurnsSpec.pre6 enc Try.prog Try.f11 Rows.edgeTurnsRow.domain false) (Rows.edgeTurnsSpec.post enc Try.prog Try.f11 false true false false) := by
  refine returnsInHanded_of_change (C := Try.checked) own started (by kernel_rfl) Try.func11
    (ChangeSpec.witness6 (enc := enc) (C := Try.checked) false ⟨#[], #[.int .u64 0, .int .u64 0], []⟩ 8 (by kernel_rfl) (by kernel_rfl) (by kernel_rfl) (by kernel_rfl)) ?_
  intro W base args ds gs before hval0 hW hcnd _
  have hval : ∀ (j : Nat) t v, Try.f11.params[j]? = some t → args[j]? = some v → Value.okWide Try.prog W .any base t v := hval0
  have hW' := hW
  have hlt := hW.lt
  obtain ⟨p, q, hA0, hV, hpq, hfz, hnd⟩ := hW
  have hA : DataW.TrodAll enc Try.prog W 0 (fun _ => true) true Try.f11.params.toList args.toList ds p := hA0
  rw [Try.params11] at hA hval
  obtain ⟨v0, vs0, d0, ds0, p0, q0, hargs, rfl, hp, h0, r0⟩ := trodAll_cons hA
  obtain ⟨v1, vs1, d1, ds1, p1, q1, rfl, rfl, rfl, h1, r1⟩ := trodAll_cons r0
  obtain ⟨rfl, rfl, rfl⟩ := trodAll_nil r1
  obtain rfl : args = #[v0, v1] := by cases args; simp_all
  obtain ⟨rfl, rfl⟩ := trodVars_none hV
  have hlt' : ∀ x ∈ before, x.block < W.heap.size := fun x hx => hlt x hx
  obtain ⟨a0, rfl, rfl, rfl, w0⟩ := open_int Try.underlying22 (hval 0 22 v0 rfl rfl) h0
  obtain ⟨a1, rfl, rfl, rfl, w1⟩ := open_int Try.underlying22 (hval 1 22 v1 rfl rfl) h1
  refine (walk a0 a1 W w0 w1).mono fun e W' ⟨he, hb⟩ => ?_
  subst he
  exact ⟨_, rfl, law_post rfl (by kernel_rfl) hW' (by rw [Try.params11]; intro t ht; simp only [List.mem_cons, List.not_mem_nil, or_false] at ht; (repeat' (first | (rcases ht with rfl | ht) | subst ht)) <;> exact ⟨by kernel_rfl, of_decide_eq_true (by kernel_rfl)⟩) rfl hb⟩

theorem over : Rows.edgeTurnsRow.holds Try.pinned (OpenSpec.ofChange Rows.edgeTurnsSpec) :=
  OpenClaim.holds_of_wide 11 Try.f11 rfl rfl rfl rfl rfl rfl rfl ⟨rfl, rfl, rfl, rfl, rfl⟩ rfl rfl rfl rfl rfl (by kernel_rfl) Try.func11 (by kernel_rfl)
    (of_decide_eq_true (by kernel_rfl)) (by unfold Func.isWrapper; first | (rw [if_pos (by decide +kernel)]; kernel_rfl) | (rw [if_neg (by decide +kernel)]; exact ⟨rfl, rfl⟩))
    (fun os started H enc _ => lifted os started H enc)

theorem proved : Rows.EdgeTurnsSaid := over
end Go.Proofs.Ytcccfmclcpldlaa.edgeTurns
