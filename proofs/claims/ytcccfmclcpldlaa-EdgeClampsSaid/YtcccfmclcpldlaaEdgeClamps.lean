/-
  What is clamped is between both bounds, and what was between stays; of no number it is the lower one. No conditions.
-/
import Derived.Test.YtcccfmclcpldlaaLaw
import Derived.Test.YtcccfmclcpldlaaAwake
namespace Go.Proofs.Ytcccfmclcpldlaa.edgeClamps
open Go.Proofs.Ytcccfmclcpldlaa Go.Proofs.Ytcccfmclcpldlaa.D Go.ChangeShapes Go.WideShapes Go.ChangeAt Go.RowKit

theorem cmp3_self (x : Int) : cmp3 x x = 0 := by unfold cmp3; simp
theorem cmp3_eq (x y : Int) : (cmp3 x y == 0) = decide (x = y) := by
  unfold cmp3; rw [Bool.eq_iff_iff]; simp only [beq_iff_eq, decide_eq_true_eq]; split
  · simp; omega
  · split <;> simp <;> omega

theorem clamp_lo {x lo hi : Nat} (h : (nan lo || nan hi || nan x || decide (rk hi < rk lo)) = true) : clampW x lo hi = lo := by
  unfold clampW aheadB
  revert h
  cases nan x <;> cases nan lo <;> cases nan hi <;> cases decide (rk hi < rk lo) <;> simp

theorem clamp_in {x lo hi : Nat} (h1 : nan x = false) (h2 : nan lo = false) (h3 : nan hi = false) (h4 : ¬ rk hi < rk lo) :
    ¬ rk (clampW x lo hi) < rk lo ∧ ¬ rk hi < rk (clampW x lo hi) ∧ (rk (clampW x lo hi) = rk x ∨ rk x < rk lo ∨ rk hi < rk x) := by
  unfold clampW aheadB
  rw [h1, h2, h3]
  simp only [Bool.or_self, Bool.false_eq_true, if_false, decide_eq_true_eq]
  rw [if_neg h4]
  split
  · exact ⟨by omega, by omega, by omega⟩
  · split
    · exact ⟨by omega, by omega, by omega⟩
    · exact ⟨by omega, by omega, by omega⟩

set_option maxHeartbeats 1000000 in
theorem walk_low (x lo hi : Nat) (w : World) (hx : x < 2 ^ 64) (hlo : lo < 2 ^ 64) (hhi : hi < 2 ^ 64) (h : (nan lo || nan hi || nan x || decide (rk hi < rk lo)) = true) :
    Calls Try.prog 6 #[.int .u64 x, .int .u64 lo, .int .u64 hi] w fun e w' => e = .returned (.bool true) ∧ Below w.heap.size w w' := by
  have n1 : (FloatKind.f64.format.order lo lo != some .eq) = nan lo := ne_self lo
  have n2 : (FloatKind.f64.format.order hi hi != some .eq) = nan hi := ne_self hi
  have n3 : (FloatKind.f64.format.order x x != some .eq) = nan x := ne_self x
  have n4 : decide (cmp3 (rk hi) (rk lo) < 0) = decide (rk hi < rk lo) := cmp3_neg _ _
  have C := Lib.hid (clamp_any x lo hi · hx hlo hhi)
  have M := Lib.hid (cmp_any hi lo · hhi hlo)
  have S := Lib.hid (same_any lo lo · hlo hlo)
  have E := Lib.hid (clamp_lo h)
  have Z : (cmp3 (rk lo) (rk lo) == 0) = true := by rw [cmp3_self]; rfl
  clear hx hlo hhi
  cases a1 : nan lo
  case true =>
    rw [a1] at n1
    clear h n2 n3 n4 a1
    go_enter Try.func6, Try.ntmps6
    go_wp2_with fail
    refine (C.out _).mono ?_; rintro e w' ⟨rfl, rfl⟩
    rw [E.out]
    go_wp2_with fail
    refine (S.out _).mono ?_; rintro e w' ⟨rfl, rfl⟩
    go_wp2_with fail
    refine (awake_any _).mono ?_; rintro e w' ⟨rfl, hb⟩
    go_wp2_with fail
    go_ret
    exact ⟨rfl, hb⟩
  case false =>
  rw [a1] at n1
  cases a2 : nan hi
  case true =>
    rw [a2] at n2
    clear h n3 n4 a1 a2
    go_enter Try.func6, Try.ntmps6
    go_wp2_with fail
    refine (C.out _).mono ?_; rintro e w' ⟨rfl, rfl⟩
    rw [E.out]
    go_wp2_with fail
    refine (S.out _).mono ?_; rintro e w' ⟨rfl, rfl⟩
    go_wp2_with fail
    refine (awake_any _).mono ?_; rintro e w' ⟨rfl, hb⟩
    go_wp2_with fail
    go_ret
    exact ⟨rfl, hb⟩
  case false =>
  rw [a2] at n2
  cases a3 : nan x
  case true =>
    rw [a3] at n3
    clear h n4 a1 a2 a3
    go_enter Try.func6, Try.ntmps6
    go_wp2_with fail
    refine (C.out _).mono ?_; rintro e w' ⟨rfl, rfl⟩
    rw [E.out]
    go_wp2_with fail
    refine (S.out _).mono ?_; rintro e w' ⟨rfl, rfl⟩
    go_wp2_with fail
    refine (awake_any _).mono ?_; rintro e w' ⟨rfl, hb⟩
    go_wp2_with fail
    go_ret
    exact ⟨rfl, hb⟩
  case false =>
  rw [a3] at n3
  have a4 : decide (rk hi < rk lo) = true := by rw [a1, a2, a3] at h; simpa using h
  rw [a4] at n4
  clear h a1 a2 a3 a4
  go_enter Try.func6, Try.ntmps6
  go_wp2_with fail
  refine (C.out _).mono ?_; rintro e w' ⟨rfl, rfl⟩
  rw [E.out]
  go_wp2_with fail
  refine (M.out _).mono ?_; rintro e w' ⟨rfl, rfl⟩
  go_wp2_with fail
  refine (S.out _).mono ?_; rintro e w' ⟨rfl, rfl⟩
  go_wp2_with fail
  refine (awake_any _).mono ?_; rintro e w' ⟨rfl, hb⟩
  go_wp2_with fail
  go_ret
  exact ⟨rfl, hb⟩

theorem clampW_lt {x lo hi : Nat} (hx : x < 2 ^ 64) (hlo : lo < 2 ^ 64) (hhi : hi < 2 ^ 64) : clampW x lo hi < 2 ^ 64 := by
  unfold clampW; repeat' split
  all_goals assumption

set_option maxHeartbeats 1000000 in
theorem walk_in (x lo hi : Nat) (w : World) (hx : x < 2 ^ 64) (hlo : lo < 2 ^ 64) (hhi : hi < 2 ^ 64) (h1 : nan x = false) (h2 : nan lo = false) (h3 : nan hi = false) (h4 : ¬ rk hi < rk lo) :
    Calls Try.prog 6 #[.int .u64 x, .int .u64 lo, .int .u64 hi] w fun e w' => e = .returned (.bool true) ∧ Below w.heap.size w w' := by
  have n1 : (FloatKind.f64.format.order lo lo != some .eq) = nan lo := ne_self lo
  have n2 : (FloatKind.f64.format.order hi hi != some .eq) = nan hi := ne_self hi
  have n3 : (FloatKind.f64.format.order x x != some .eq) = nan x := ne_self x
  have n4 : decide (cmp3 (rk hi) (rk lo) < 0) = decide (rk hi < rk lo) := cmp3_neg _ _
  rw [decide_eq_false h4] at n4
  rw [h2] at n1; rw [h3] at n2; rw [h1] at n3
  obtain ⟨F1, F2, F3⟩ := clamp_in h1 h2 h3 h4
  have hy := clampW_lt hx hlo hhi
  have C := Lib.hid (clamp_any x lo hi · hx hlo hhi)
  generalize clampW x lo hi = y at *
  have M := Lib.hid (cmp_any hi lo · hhi hlo)
  have M1 := Lib.hid (cmp_any y lo · hy hlo)
  have M2 := Lib.hid (cmp_any y hi · hy hhi)
  have M3 := Lib.hid (cmp_any x lo · hx hlo)
  have M4 := Lib.hid (cmp_any x hi · hx hhi)
  have S := Lib.hid (same_any y x · hy hx)
  have b1 : decide (cmp3 (rk y) (rk lo) < 0) = decide (rk y < rk lo) := cmp3_neg _ _
  have b2 : decide (0 < cmp3 (rk y) (rk hi)) = decide (rk hi < rk y) := cmp3_pos _ _
  have b3 : (cmp3 (rk y) (rk x) == 0) = decide (rk y = rk x) := cmp3_eq _ _
  have b4 : decide (cmp3 (rk x) (rk lo) < 0) = decide (rk x < rk lo) := cmp3_neg _ _
  have b5 : decide (0 < cmp3 (rk x) (rk hi)) = decide (rk hi < rk x) := cmp3_pos _ _
  rw [decide_eq_false F1] at b1
  rw [decide_eq_false F2] at b2
  clear hx hlo hhi hy h1 h2 h3 h4 F1 F2
  by_cases g1 : rk y = rk x
  · rw [decide_eq_true g1] at b3
    clear b4 b5 g1 F3
    go_enter Try.func6, Try.ntmps6
    go_wp2_with fail
    refine (C.out _).mono ?_; rintro e w' ⟨rfl, rfl⟩
    go_wp2_with fail
    refine (M.out _).mono ?_; rintro e w' ⟨rfl, rfl⟩
    go_wp2_with fail
    refine (M1.out _).mono ?_; rintro e w' ⟨rfl, rfl⟩
    go_wp2_with fail
    refine (M2.out _).mono ?_; rintro e w' ⟨rfl, rfl⟩
    go_wp2_with fail
    refine (S.out _).mono ?_; rintro e w' ⟨rfl, rfl⟩
    go_wp2_with fail
    refine (awake_any _).mono ?_; rintro e w' ⟨rfl, hb⟩
    go_wp2_with fail
    go_ret
    exact ⟨rfl, hb⟩
  · rw [decide_eq_false g1] at b3
    by_cases g2 : rk x < rk lo
    · rw [decide_eq_true g2] at b4
      clear b5 g1 g2 F3
      go_enter Try.func6, Try.ntmps6
      go_wp2_with fail
      refine (C.out _).mono ?_; rintro e w' ⟨rfl, rfl⟩
      go_wp2_with fail
      refine (M.out _).mono ?_; rintro e w' ⟨rfl, rfl⟩
      go_wp2_with fail
      refine (M1.out _).mono ?_; rintro e w' ⟨rfl, rfl⟩
      go_wp2_with fail
      refine (M2.out _).mono ?_; rintro e w' ⟨rfl, rfl⟩
      go_wp2_with fail
      refine (S.out _).mono ?_; rintro e w' ⟨rfl, rfl⟩
      go_wp2_with fail
      refine (M3.out _).mono ?_; rintro e w' ⟨rfl, rfl⟩
      go_wp2_with fail
      refine (awake_any _).mono ?_; rintro e w' ⟨rfl, hb⟩
      go_wp2_with fail
      go_ret
      exact ⟨rfl, hb⟩
    · rw [decide_eq_false g2] at b4
      rw [decide_eq_true (by omega : rk hi < rk x)] at b5
      clear g1 g2 F3
      go_enter Try.func6, Try.ntmps6
      go_wp2_with fail
      refine (C.out _).mono ?_; rintro e w' ⟨rfl, rfl⟩
      go_wp2_with fail
      refine (M.out _).mono ?_; rintro e w' ⟨rfl, rfl⟩
      go_wp2_with fail
      refine (M1.out _).mono ?_; rintro e w' ⟨rfl, rfl⟩
      go_wp2_with fail
      refine (M2.out _).mono ?_; rintro e w' ⟨rfl, rfl⟩
      go_wp2_with fail
      refine (S.out _).mono ?_; rintro e w' ⟨rfl, rfl⟩
      go_wp2_with fail
      refine (M3.out _).mono ?_; rintro e w' ⟨rfl, rfl⟩
      go_wp2_with fail
      refine (M4.out _).mono ?_; rintro e w' ⟨rfl, rfl⟩
      go_wp2_with fail
      refine (awake_any _).mono ?_; rintro e w' ⟨rfl, hb⟩
      go_wp2_with fail
      go_ret
      exact ⟨rfl, hb⟩

theorem walk (a0 a1 a2 : Int) (w : World) (w0 : (Lit.int .u64 a0).wf = true) (w1 : (Lit.int .u64 a1).wf = true) (w2 : (Lit.int .u64 a2).wf = true) :
    Calls Try.prog 6 #[.int .u64 a0, .int .u64 a1, .int .u64 a2] w fun e w' => e = .returned (.bool true) ∧ Below w.heap.size w w' := by
  obtain ⟨x, rfl, hx⟩ := nat_of_u64 w0
  obtain ⟨lo, rfl, hlo⟩ := nat_of_u64 w1
  obtain ⟨hi, rfl, hhi⟩ := nat_of_u64 w2
  cases h : (nan lo || nan hi || nan x || decide (rk hi < rk lo))
  case true => exact walk_low x lo hi w hx hlo hhi h
  case false =>
    simp only [Bool.or_eq_false_iff, decide_eq_false_iff_not] at h
    exact walk_in x lo hi w hx hlo hhi h.1.2 h.1.1.1 h.1.1.2 h.2

set_option maxRecDepth 100000 in
theorem lifted (os : Os) (started : os.Started) (H : Type) (enc : TypeId × Value → H) :
    ReturnsInHanded {} Try.checked os 6 .any (Rows.edgeClampsSpec.pre6 enc Try.prog Try.f6 Rows.edgeClampsRow.domain false) (Rows.edgeClampsSpec.post enc Try.prog Try.f6 false true false false) := by
  refine returnsInHanded_of_change (C := Try.checked) own started (by kernel_rfl) Try.func6
    (ChangeSpec.witness6 (enc := enc) (C := Try.checked) false ⟨#[], #[.int .u64 0, .int .u64 0, .int .u64 0], []⟩ 8 (by kernel_rfl) (by kernel_rfl) (by kernel_rfl) (by kernel_rfl)) ?_
  intro W base args ds gs before hval0 hW hcnd _
  have hval : ∀ (j : Nat) t v, Try.f6.params[j]? = some t → args[j]? = some v → Value.okWide Try.prog W .any base t v := hval0
  have hW' := hW
  have hlt := hW.lt
  obtain ⟨p, q, hA0, hV, hpq, hfz, hnd⟩ := hW
  have hA : DataW.TrodAll enc Try.prog W 0 (fun _ => true) true Try.f6.params.toList args.toList ds p := hA0
  rw [Try.params6] at hA hval
  obtain ⟨v0, vs0, d0, ds0, p0, q0, hargs, rfl, hp, h0, r0⟩ := trodAll_cons hA
  obtain ⟨v1, vs1, d1, ds1, p1, q1, rfl, rfl, rfl, h1, r1⟩ := trodAll_cons r0
  obtain ⟨v2, vs2, d2, ds2, p2, q2, rfl, rfl, rfl, h2, r2⟩ := trodAll_cons r1
  obtain ⟨rfl, rfl, rfl⟩ := trodAll_nil r2
  obtain rfl : args = #[v0, v1, v2] := by cases args; simp_all
  obtain ⟨rfl, rfl⟩ := trodVars_none hV
  have hlt' : ∀ x ∈ before, x.block < W.heap.size := fun x hx => hlt x hx
  obtain ⟨a0, rfl, rfl, rfl, w0⟩ := open_int Try.underlying22 (hval 0 22 v0 rfl rfl) h0
  obtain ⟨a1, rfl, rfl, rfl, w1⟩ := open_int Try.underlying22 (hval 1 22 v1 rfl rfl) h1
  obtain ⟨a2, rfl, rfl, rfl, w2⟩ := open_int Try.underlying22 (hval 2 22 v2 rfl rfl) h2
  refine (walk a0 a1 a2 W w0 w1 w2).mono fun e W' ⟨he, hb⟩ => ?_
  subst he
  exact ⟨_, rfl, law_post rfl (by kernel_rfl) hW' (by rw [Try.params6]; intro t ht; simp only [List.mem_cons, List.not_mem_nil, or_false] at ht; (repeat' (first | (rcases ht with rfl | ht) | subst ht)) <;> exact ⟨by kernel_rfl, of_decide_eq_true (by kernel_rfl)⟩) rfl hb⟩

theorem over : Rows.edgeClampsRow.holds Try.pinned (OpenSpec.ofChange Rows.edgeClampsSpec) :=
  OpenClaim.holds_of_wide 6 Try.f6 rfl rfl rfl rfl rfl rfl rfl ⟨rfl, rfl, rfl, rfl, rfl⟩ rfl rfl rfl rfl rfl (by kernel_rfl) Try.func6 (by kernel_rfl)
    (of_decide_eq_true (by kernel_rfl)) (by unfold Func.isWrapper; first | (rw [if_pos (by decide +kernel)]; kernel_rfl) | (rw [if_neg (by decide +kernel)]; exact ⟨rfl, rfl⟩))
    (fun os started H enc _ => lifted os started H enc)

theorem proved : Rows.EdgeClampsSaid := over
end Go.Proofs.Ytcccfmclcpldlaa.edgeClamps
