/-
  The order of words is one: of two that are not the same one is ahead; who is ahead of one that is ahead of a third is ahead of that; where both are numbers, it is that of numbers. No conditions.
-/
import Derived.Test.YtcccfmclcpldlaaLaw
import Derived.Test.YtcccfmclcpldlaaAwake
namespace Go.Proofs.Ytcccfmclcpldlaa.edgeOne
open Go.Proofs.Ytcccfmclcpldlaa Go.Proofs.Ytcccfmclcpldlaa.D Go.ChangeShapes Go.WideShapes Go.ChangeAt Go.RowKit

theorem rk_nan_max {a : Nat} (h : nan a = true) : rk a = 9223372036854775807 := by unfold rk; rw [h]; rfl
theorem nan_of_max {a : Nat} (h : 9218868437227405312 < rk a) : nan a = true := by
  cases g : nan a
  · have := rk_lt g; omega
  · rfl
theorem not_nan_of_lt {a b : Nat} (h : rk a < rk b) : nan a = false := by
  cases g : nan a
  · rfl
  · have := rk_nan_max g; have := rk_le b; omega
theorem lss_of {a b : Nat} (h : (FloatKind.f64.format.order a b == some .lt) = true) : rk a < rk b := by
  rw [lss_key] at h
  simp only [Bool.and_eq_true, Bool.not_eq_true', decide_eq_true_eq] at h
  obtain ⟨⟨h1, h2⟩, h3⟩ := h
  unfold rk key at *
  rw [h1, h2]
  revert h3
  cases sgn a <;> cases sgn b <;> simp <;> omega
theorem gtr_flip (a b : Nat) : (FloatKind.f64.format.order a b == some .gt) = (FloatKind.f64.format.order b a == some .lt) := by
  rw [gtr_key, lss_key]; cases nan a <;> cases nan b <;> simp
theorem rk_inj {a b : Nat} (ha : a < 2 ^ 64) (hb : b < 2 ^ 64) (h : rk a = rk b) (hn : nan a = false) : a = b := by
  have hm : nan b = false := by
    cases g : nan b
    · rfl
    · have := rk_nan_max g; have := rk_lt hn; omega
  have e1 := word_eq ha
  have e2 := word_eq hb
  unfold rk at h
  rw [hn, hm] at h
  rw [e1, e2]
  revert h
  cases sgn a <;> cases sgn b <;> simp <;> omega

theorem cmp_is (a b : Nat) (ha : a < 2 ^ 64) (hb : b < 2 ^ 64) (c : Int) (h : cmp3 (rk a) (rk b) = c) (w : World) : Calls Try.prog 19 #[.float .f64 a, .float .f64 b] w fun e w' => e = .returned (.int .i64 c) ∧ w = w' := by
  rw [← h]; exact cmp_any a b w ha hb
theorem c_lt {x y : Int} (h : x < y) : cmp3 x y = -1 := by unfold cmp3; rw [if_pos h]
theorem c_gt {x y : Int} (h : y < x) : cmp3 x y = 1 := by unfold cmp3; rw [if_neg (by omega), if_pos h]
theorem c_eq {x y : Int} (h : x = y) : cmp3 x y = 0 := by unfold cmp3; rw [if_neg (by omega), if_neg (by omega)]

theorem c_le {x y : Int} (h : ¬ y < x) : cmp3 x y ≤ 0 := by
  unfold cmp3; rw [if_neg h]; split <;> decide

theorem ne_int {x y : Nat} (h : rk x ≠ rk y) : ((x : Int) == (y : Int)) = false :=
  beq_eq_false_iff_ne.2 (fun e => h (by rw [show x = y by omega]))
theorem lss_no {x y : Nat} (h : ¬ rk x < rk y) : (FloatKind.f64.format.order x y == some .lt) = false := by
  cases g : (FloatKind.f64.format.order x y == some .lt)
  · rfl
  · exact absurd (lss_of g) h
theorem gtr_no {x y : Nat} (h : ¬ rk y < rk x) : (FloatKind.f64.format.order x y == some .gt) = false := (gtr_flip x y).trans (lss_no h)

set_option maxHeartbeats 1000000 in
theorem walk_gt (x y z : Nat) (w : World) (hx : x < 2 ^ 64) (hy : y < 2 ^ 64) (h : rk y < rk x) :
    Calls Try.prog 4 #[.int .u64 x, .int .u64 y, .int .u64 z] w fun e w' => e = .returned (.bool true) ∧ Below w.heap.size w w' := by
  have M1 := Lib.hid (cmp_is x y hx hy 1 (c_gt h))
  have M2 := Lib.hid (cmp_is y x hy hx (-1) (c_lt h))
  have M3 := Lib.hid (cmp_is x x hx hx 0 (c_eq rfl))
  have n2 : (FloatKind.f64.format.order y y != some .eq) = false := (ne_self y).trans (not_nan_of_lt h)
  have o1 := lss_no (x := x) (y := y) (by omega)
  have e1 := ne_int (x := x) (y := y) (by omega)
  clear hx hy h
  cases o2 : (FloatKind.f64.format.order x y == some .gt)
  case true =>
    cases n1 : (FloatKind.f64.format.order x x != some .eq)
    all_goals
      go_enter Try.func4, Try.ntmps4
      go_wp2_with fail
      refine (M1.out _).mono ?_; rintro e w' ⟨rfl, rfl⟩
      go_wp2_with fail
      refine (M2.out _).mono ?_; rintro e w' ⟨rfl, rfl⟩
      go_wp2_with fail
      refine (M3.out _).mono ?_; rintro e w' ⟨rfl, rfl⟩
      go_wp2_with fail
      refine (M1.out _).mono ?_; rintro e w' ⟨rfl, rfl⟩
      go_wp2_with fail
      refine (M1.out _).mono ?_; rintro e w' ⟨rfl, rfl⟩
      go_wp2_with fail
      refine (M1.out _).mono ?_; rintro e w' ⟨rfl, rfl⟩
      go_wp2_with fail
      refine (awake_any _).mono ?_; rintro e w' ⟨rfl, hb⟩
      go_wp2_with fail
      go_ret
      exact ⟨rfl, hb⟩
  case false =>
    cases n1 : (FloatKind.f64.format.order x x != some .eq)
    all_goals
      go_enter Try.func4, Try.ntmps4
      go_wp2_with fail
      refine (M1.out _).mono ?_; rintro e w' ⟨rfl, rfl⟩
      go_wp2_with fail
      refine (M2.out _).mono ?_; rintro e w' ⟨rfl, rfl⟩
      go_wp2_with fail
      refine (M3.out _).mono ?_; rintro e w' ⟨rfl, rfl⟩
      go_wp2_with fail
      refine (M1.out _).mono ?_; rintro e w' ⟨rfl, rfl⟩
      go_wp2_with fail
      refine (M1.out _).mono ?_; rintro e w' ⟨rfl, rfl⟩
      go_wp2_with fail
      refine (awake_any _).mono ?_; rintro e w' ⟨rfl, hb⟩
      go_wp2_with fail
      go_ret
      exact ⟨rfl, hb⟩

set_option maxHeartbeats 2000000 in
theorem walk_lt (x y z : Nat) (w : World) (hx : x < 2 ^ 64) (hy : y < 2 ^ 64) (hz : z < 2 ^ 64) (h : rk x < rk y) :
    Calls Try.prog 4 #[.int .u64 x, .int .u64 y, .int .u64 z] w fun e w' => e = .returned (.bool true) ∧ Below w.heap.size w w' := by
  have M1 := Lib.hid (cmp_is x y hx hy (-1) (c_lt h))
  have M2 := Lib.hid (cmp_is y x hy hx 1 (c_gt h))
  have M3 := Lib.hid (cmp_is x x hx hx 0 (c_eq rfl))
  have n1 : (FloatKind.f64.format.order x x != some .eq) = false := (ne_self x).trans (not_nan_of_lt h)
  have o2 := gtr_no (x := x) (y := y) (by omega)
  have e1 := ne_int (x := x) (y := y) (by omega)
  by_cases g : rk z < rk y
  · have M4 := Lib.hid (cmp_is y z hy hz 1 (c_gt g))
    clear hx hy hz h g
    cases o1 : (FloatKind.f64.format.order x y == some .lt)
    case true =>
      go_enter Try.func4, Try.ntmps4
      go_wp2_with fail
      refine (M1.out _).mono ?_; rintro e w' ⟨rfl, rfl⟩
      go_wp2_with fail
      refine (M2.out _).mono ?_; rintro e w' ⟨rfl, rfl⟩
      go_wp2_with fail
      refine (M3.out _).mono ?_; rintro e w' ⟨rfl, rfl⟩
      go_wp2_with fail
      refine (M1.out _).mono ?_; rintro e w' ⟨rfl, rfl⟩
      go_wp2_with fail
      refine (M4.out _).mono ?_; rintro e w' ⟨rfl, rfl⟩
      go_wp2_with fail
      refine (M1.out _).mono ?_; rintro e w' ⟨rfl, rfl⟩
      go_wp2_with fail
      refine (M1.out _).mono ?_; rintro e w' ⟨rfl, rfl⟩
      go_wp2_with fail
      refine (awake_any _).mono ?_; rintro e w' ⟨rfl, hb⟩
      go_wp2_with fail
      go_ret
      exact ⟨rfl, hb⟩
    case false =>
      go_enter Try.func4, Try.ntmps4
      go_wp2_with fail
      refine (M1.out _).mono ?_; rintro e w' ⟨rfl, rfl⟩
      go_wp2_with fail
      refine (M2.out _).mono ?_; rintro e w' ⟨rfl, rfl⟩
      go_wp2_with fail
      refine (M3.out _).mono ?_; rintro e w' ⟨rfl, rfl⟩
      go_wp2_with fail
      refine (M1.out _).mono ?_; rintro e w' ⟨rfl, rfl⟩
      go_wp2_with fail
      refine (M4.out _).mono ?_; rintro e w' ⟨rfl, rfl⟩
      go_wp2_with fail
      refine (M1.out _).mono ?_; rintro e w' ⟨rfl, rfl⟩
      go_wp2_with fail
      refine (awake_any _).mono ?_; rintro e w' ⟨rfl, hb⟩
      go_wp2_with fail
      go_ret
      exact ⟨rfl, hb⟩
  · have M5 := Lib.hid (cmp_is x z hx hz (-1) (c_lt (by omega)))
    have M4 := Lib.hid (cmp_is y z hy hz _ rfl)
    have hc : cmp3 (rk y) (rk z) ≤ 0 := c_le g
    generalize cmp3 (rk y) (rk z) = c at *
    clear hx hy hz h g
    cases o1 : (FloatKind.f64.format.order x y == some .lt)
    case true =>
      go_enter Try.func4, Try.ntmps4
      go_wp2_with fail
      refine (M1.out _).mono ?_; rintro e w' ⟨rfl, rfl⟩
      go_wp2_with fail
      refine (M2.out _).mono ?_; rintro e w' ⟨rfl, rfl⟩
      go_wp2_with fail
      refine (M3.out _).mono ?_; rintro e w' ⟨rfl, rfl⟩
      go_wp2_with fail
      refine (M1.out _).mono ?_; rintro e w' ⟨rfl, rfl⟩
      go_wp2_with fail
      refine (M4.out _).mono ?_; rintro e w' ⟨rfl, rfl⟩
      go_wp2_with fail
      refine (M5.out _).mono ?_; rintro e w' ⟨rfl, rfl⟩
      go_wp2_with fail
      refine (M1.out _).mono ?_; rintro e w' ⟨rfl, rfl⟩
      go_wp2_with fail
      refine (M1.out _).mono ?_; rintro e w' ⟨rfl, rfl⟩
      go_wp2_with fail
      refine (awake_any _).mono ?_; rintro e w' ⟨rfl, hb⟩
      go_wp2_with fail
      go_ret
      exact ⟨rfl, hb⟩
    case false =>
      go_enter Try.func4, Try.ntmps4
      go_wp2_with fail
      refine (M1.out _).mono ?_; rintro e w' ⟨rfl, rfl⟩
      go_wp2_with fail
      refine (M2.out _).mono ?_; rintro e w' ⟨rfl, rfl⟩
      go_wp2_with fail
      refine (M3.out _).mono ?_; rintro e w' ⟨rfl, rfl⟩
      go_wp2_with fail
      refine (M1.out _).mono ?_; rintro e w' ⟨rfl, rfl⟩
      go_wp2_with fail
      refine (M4.out _).mono ?_; rintro e w' ⟨rfl, rfl⟩
      go_wp2_with fail
      refine (M5.out _).mono ?_; rintro e w' ⟨rfl, rfl⟩
      go_wp2_with fail
      refine (M1.out _).mono ?_; rintro e w' ⟨rfl, rfl⟩
      go_wp2_with fail
      refine (awake_any _).mono ?_; rintro e w' ⟨rfl, hb⟩
      go_wp2_with fail
      go_ret
      exact ⟨rfl, hb⟩

set_option maxHeartbeats 2000000 in
theorem walk_eq (x y z : Nat) (w : World) (hx : x < 2 ^ 64) (hy : y < 2 ^ 64) (hz : z < 2 ^ 64) (h : rk x = rk y) :
    Calls Try.prog 4 #[.int .u64 x, .int .u64 y, .int .u64 z] w fun e w' => e = .returned (.bool true) ∧ Below w.heap.size w w' := by
  have M1 := Lib.hid (cmp_is x y hx hy 0 (c_eq h))
  have M2 := Lib.hid (cmp_is y x hy hx 0 (c_eq h.symm))
  have M3 := Lib.hid (cmp_is x x hx hx 0 (c_eq rfl))
  have o1 := lss_no (x := x) (y := y) (by omega)
  have o2 := gtr_no (x := x) (y := y) (by omega)
  have K : Hid (((x : Int) == (y : Int)) = true ∨ (((x : Int) == (y : Int)) = false ∧ nan x = true ∧ nan y = true)) := Lib.hid (by
    cases hn : nan x
    · exact .inl (by rw [rk_inj hx hy h hn]; exact beq_self_eq_true _)
    · have hm : nan y = true := nan_of_max (by have := rk_nan_max hn; omega)
      rw [hm]
      cases ((x : Int) == (y : Int)) <;> simp)
  have N1 := Lib.hid (ne_self x)
  have N2 := Lib.hid (ne_self y)
  by_cases g : rk z < rk y
  · have M4 := Lib.hid (cmp_is y z hy hz 1 (c_gt g))
    clear hx hy hz h g
    rcases K.out with e1 | ⟨e1, k1, k2⟩
    · clear K
      go_enter Try.func4, Try.ntmps4
      go_wp2_with fail
      refine (M1.out _).mono ?_; rintro e w' ⟨rfl, rfl⟩
      go_wp2_with fail
      refine (M2.out _).mono ?_; rintro e w' ⟨rfl, rfl⟩
      go_wp2_with fail
      refine (M3.out _).mono ?_; rintro e w' ⟨rfl, rfl⟩
      go_wp2_with fail
      refine (M1.out _).mono ?_; rintro e w' ⟨rfl, rfl⟩
      go_wp2_with fail
      refine (M4.out _).mono ?_; rintro e w' ⟨rfl, rfl⟩
      go_wp2_with fail
      refine (M1.out _).mono ?_; rintro e w' ⟨rfl, rfl⟩
      go_wp2_with fail
      refine (awake_any _).mono ?_; rintro e w' ⟨rfl, hb⟩
      go_wp2_with fail
      go_ret
      exact ⟨rfl, hb⟩
    · have n1 : (FloatKind.f64.format.order x x != some .eq) = true := N1.out.trans k1
      have n2 : (FloatKind.f64.format.order y y != some .eq) = true := N2.out.trans k2
      clear K k1 k2
      go_enter Try.func4, Try.ntmps4
      go_wp2_with fail
      refine (M1.out _).mono ?_; rintro e w' ⟨rfl, rfl⟩
      go_wp2_with fail
      refine (M2.out _).mono ?_; rintro e w' ⟨rfl, rfl⟩
      go_wp2_with fail
      refine (M3.out _).mono ?_; rintro e w' ⟨rfl, rfl⟩
      go_wp2_with fail
      refine (M1.out _).mono ?_; rintro e w' ⟨rfl, rfl⟩
      go_wp2_with fail
      refine (M4.out _).mono ?_; rintro e w' ⟨rfl, rfl⟩
      go_wp2_with fail
      refine (M1.out _).mono ?_; rintro e w' ⟨rfl, rfl⟩
      go_wp2_with fail
      refine (awake_any _).mono ?_; rintro e w' ⟨rfl, hb⟩
      go_wp2_with fail
      go_ret
      exact ⟨rfl, hb⟩
  · have M5 := Lib.hid (cmp_is x z hx hz _ rfl)
    have M4 := Lib.hid (cmp_is y z hy hz _ rfl)
    have hc : cmp3 (rk y) (rk z) ≤ 0 := c_le g
    have hd : cmp3 (rk x) (rk z) ≤ 0 := by rw [h]; exact hc
    generalize cmp3 (rk y) (rk z) = c at *
    generalize cmp3 (rk x) (rk z) = d at *
    clear hx hy hz h g
    rcases K.out with e1 | ⟨e1, k1, k2⟩
    · clear K
      go_enter Try.func4, Try.ntmps4
      go_wp2_with fail
      refine (M1.out _).mono ?_; rintro e w' ⟨rfl, rfl⟩
      go_wp2_with fail
      refine (M2.out _).mono ?_; rintro e w' ⟨rfl, rfl⟩
      go_wp2_with fail
      refine (M3.out _).mono ?_; rintro e w' ⟨rfl, rfl⟩
      go_wp2_with fail
      refine (M1.out _).mono ?_; rintro e w' ⟨rfl, rfl⟩
      go_wp2_with fail
      refine (M4.out _).mono ?_; rintro e w' ⟨rfl, rfl⟩
      go_wp2_with fail
      refine (M5.out _).mono ?_; rintro e w' ⟨rfl, rfl⟩
      go_wp2_with fail
      refine (M1.out _).mono ?_; rintro e w' ⟨rfl, rfl⟩
      go_wp2_with fail
      refine (awake_any _).mono ?_; rintro e w' ⟨rfl, hb⟩
      go_wp2_with fail
      go_ret
      exact ⟨rfl, hb⟩
    · have n1 : (FloatKind.f64.format.order x x != some .eq) = true := N1.out.trans k1
      have n2 : (FloatKind.f64.format.order y y != some .eq) = true := N2.out.trans k2
      clear K k1 k2
      go_enter Try.func4, Try.ntmps4
      go_wp2_with fail
      refine (M1.out _).mono ?_; rintro e w' ⟨rfl, rfl⟩
      go_wp2_with fail
      refine (M2.out _).mono ?_; rintro e w' ⟨rfl, rfl⟩
      go_wp2_with fail
      refine (M3.out _).mono ?_; rintro e w' ⟨rfl, rfl⟩
      go_wp2_with fail
      refine (M1.out _).mono ?_; rintro e w' ⟨rfl, rfl⟩
      go_wp2_with fail
      refine (M4.out _).mono ?_; rintro e w' ⟨rfl, rfl⟩
      go_wp2_with fail
      refine (M5.out _).mono ?_; rintro e w' ⟨rfl, rfl⟩
      go_wp2_with fail
      refine (M1.out _).mono ?_; rintro e w' ⟨rfl, rfl⟩
      go_wp2_with fail
      refine (awake_any _).mono ?_; rintro e w' ⟨rfl, hb⟩
      go_wp2_with fail
      go_ret
      exact ⟨rfl, hb⟩

theorem walk (a0 a1 a2 : Int) (w : World) (w0 : (Lit.int .u64 a0).wf = true) (w1 : (Lit.int .u64 a1).wf = true) (w2 : (Lit.int .u64 a2).wf = true) :
    Calls Try.prog 4 #[.int .u64 a0, .int .u64 a1, .int .u64 a2] w fun e w' => e = .returned (.bool true) ∧ Below w.heap.size w w' := by
  obtain ⟨x, rfl, hx⟩ := nat_of_u64 w0
  obtain ⟨y, rfl, hy⟩ := nat_of_u64 w1
  obtain ⟨z, rfl, hz⟩ := nat_of_u64 w2
  rcases Int.lt_trichotomy (rk x) (rk y) with h | h | h
  · exact walk_lt x y z w hx hy hz h
  · exact walk_eq x y z w hx hy hz h
  · exact walk_gt x y z w hx hy h

set_option maxRecDepth 100000 in
theorem lifted (os : Os) (started : os.Started) (H : Type) (enc : TypeId × Value → H) :
    ReturnsInHanded {} Try.checked os 4 .any (Rows.edgeOneSpec.pre6 enc Try.prog Try.f4 Rows.edgeOneRow.domain false) (Rows.edgeOneSpec.post enc Try.prog Try.f4 false true false false) := by
  refine returnsInHanded_of_change (C := Try.checked) own started (by kernel_rfl) Try.func4
    (ChangeSpec.witness6 (enc := enc) (C := Try.checked) false ⟨#[], #[.int .u64 0, .int .u64 0, .int .u64 0], []⟩ 8 (by kernel_rfl) (by kernel_rfl) (by kernel_rfl) (by kernel_rfl)) ?_
  intro W base args ds gs before hval0 hW hcnd _
  have hval : ∀ (j : Nat) t v, Try.f4.params[j]? = some t → args[j]? = some v → Value.okWide Try.prog W .any base t v := hval0
  have hW' := hW
  have hlt := hW.lt
  obtain ⟨p, q, hA0, hV, hpq, hfz, hnd⟩ := hW
  have hA : DataW.TrodAll enc Try.prog W 0 (fun _ => true) true Try.f4.params.toList args.toList ds p := hA0
  rw [Try.params4] at hA hval
  obtain ⟨v0, vs0, d0, ds0, p0, q0, hargs, rfl, hp, h0, r0⟩ := trodAll_cons hA
  obtain ⟨v1, vs1, d1, ds1, p1, q1, rfl, rfl, rfl, h1, r1⟩ := trodAll_cons r0
  obtain ⟨v2, vs2, d2, ds2, p2, q2, rfl, rfl, rfl, h2, r2⟩ := trodAll_cons r1
  obtain ⟨rfl, rfl, rfl⟩ := trodAll_nil r2
  obtain rfl : args = #[v0, v1, v2] := by cases args; simp_all
  obtain ⟨rfl, rfl⟩ := trodVars_none hV
  have hlt' : ∀ x ∈ before, x.block < W.heap.size := fun x hx => hlt x hx
  obtain ⟨a0, rfl, rfl, rfl, w0⟩ := open_int Try.underlying22 (hval 0 22 v0 rfl rfl) h0
  obtain ⟨a1, rfl, rfl, rfl, w1⟩ := open_int Try.underlying22 (hval 1 22 v1 rfl rfl) h1
  obtain ⟨a2, rfl, rfl, rfl, w2⟩ := open_int Try.underlying22 (hval 2 22 v2 rfl rfl) h2
  refine (walk a0 a1 a2 W w0 w1 w2).mono fun e W' ⟨he, hb⟩ => ?_
  subst he
  exact ⟨_, rfl, law_post rfl (by kernel_rfl) hW' (by rw [Try.params4]; intro t ht; simp only [List.mem_cons, List.not_mem_nil, or_false] at ht; (repeat' (first | (rcases ht with rfl | ht) | subst ht)) <;> exact ⟨by kernel_rfl, of_decide_eq_true (by kernel_rfl)⟩) rfl hb⟩

theorem over : Rows.edgeOneRow.holds Try.pinned (OpenSpec.ofChange Rows.edgeOneSpec) :=
  OpenClaim.holds_of_wide 4 Try.f4 rfl rfl rfl rfl rfl rfl rfl ⟨rfl, rfl, rfl, rfl, rfl⟩ rfl rfl rfl rfl rfl (by kernel_rfl) Try.func4 (by kernel_rfl)
    (of_decide_eq_true (by kernel_rfl)) (by unfold Func.isWrapper; first | (rw [if_pos (by decide +kernel)]; kernel_rfl) | (rw [if_neg (by decide +kernel)]; exact ⟨rfl, rfl⟩))
    (fun os started H enc _ => lifted os started H enc)

theorem proved : Rows.EdgeOneSaid := over
end Go.Proofs.Ytcccfmclcpldlaa.edgeOne
