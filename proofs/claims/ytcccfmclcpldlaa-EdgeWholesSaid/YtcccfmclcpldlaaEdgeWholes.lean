/-
  Whole numbers up to 2^53 are told as they are; with a half on top they are none; infinities and no numbers are none. No conditions.
-/
import Derived.Test.YtcccfmclcpldlaaLaw
import Derived.Test.YtcccfmclcpldlaaTwo
import Derived.Test.YtcccfmclcpldlaaExact
namespace Go.Proofs.Ytcccfmclcpldlaa.edgeWholes
open Go.Proofs.Ytcccfmclcpldlaa Go.Proofs.Ytcccfmclcpldlaa.D Go.ChangeShapes Go.WideShapes Go.ChangeAt Go.RowKit

/-- the word of a whole number up to 2^53 -/
theorem of_int (n : Int) (h1 : -9007199254740992 ≤ n) (h2 : n ≤ 9007199254740992) : floatOfInt .f64 n < 2 ^ 64 ∧ rung (floatOfInt .f64 n) < inf ∧ sgn (floatOfInt .f64 n) = decide (n < 0) ∧ val (rung (floatOfInt .f64 n)) = n.natAbs * 2 ^ lp := by
  have e : floatOfInt .f64 n = Ieee.double.nearest (decide (n < 0)) n.natAbs 0 := rfl
  obtain ⟨r, hr, hi, hv⟩ := nearest_nat (decide (n < 0)) n.natAbs (by omega)
  have hlt : inf < 2 ^ 63 := by decide
  rw [e, hr]
  refine ⟨?_, ?_, ?_, ?_⟩
  · unfold Ieee.Format.word; rw [weight]; split <;> omega
  · rw [rung_word _ _ (by omega)]; exact hi
  · rw [sgn_word _ _ (by omega)]
  · rw [rung_word _ _ (by omega)]; exact hv

theorem nan_of_rung {x : Nat} (h : rung x < inf) : nan x = false := by unfold nan; simp; omega

theorem whole_int (n : Int) (h1 : -9007199254740992 ≤ n) (h2 : n ≤ 9007199254740992) : wholeB (floatOfInt .f64 n) = true ∧ wholeV (floatOfInt .f64 n) = n := by
  obtain ⟨hlt, hi, hs, hv⟩ := of_int n h1 h2
  have e : floatOfInt .f64 n = Ieee.double.nearest (decide (n < 0)) n.natAbs 0 := rfl
  have hf : flr (floatOfInt .f64 n) = n.natAbs := by unfold flr; rw [hv, Nat.mul_div_cancel _ (Nat.two_pow_pos _)]
  have ht : truncW (floatOfInt .f64 n) = floatOfInt .f64 n := by unfold truncW; rw [if_pos hi, hf, hs, ← e]
  have hn := nan_of_rung hi
  have hr : rung (floatOfInt .f64 n) ≤ top53 := val_le.1 (by rw [hv, val_top]; exact Nat.mul_le_mul_right _ (by omega))
  have hB : wholeB (floatOfInt .f64 n) = true := by
    unfold wholeB nearB
    rw [ht, eql_key, hn, decide_eq_true hr]; simp
  refine ⟨hB, ?_⟩
  unfold wholeV wholeI
  rw [hB, hs, hf]
  simp only [if_true, decide_eq_true_eq]
  split <;> omega

/-- the place of a half's last digit, above the least one; behind a name -/
def hl : Nat := 1021
theorem hl_eq : hl = 1021 := rfl
theorem pow_lp : 2 ^ lp = 2 ^ (lp - 1) * 2 := by
  have : lp = (lp - 1) + 1 := rfl
  conv => lhs; rw [this, Nat.pow_succ]
theorem half_eq (n : Int) (U : Nat) : (if n < 0 then -((2 * n.natAbs * U : Nat) : Int) else ((2 * n.natAbs * U : Nat) : Int)) + (U : Int) = (2 * n + 1) * (U : Int) := by
  rw [Int.add_mul, Int.one_mul]
  by_cases hn : n < 0
  · rw [if_pos hn]
    have h : (n.natAbs : Int) = -n := by omega
    push_cast
    rw [h, Int.mul_neg, Int.neg_mul, Int.neg_neg]
  · rw [if_neg hn]
    have h : (n.natAbs : Int) = n := by omega
    push_cast
    rw [h]

theorem half_read : Ieee.double.read 4602678819172646912 = .number false (2 ^ 52) (-53) := by decide +kernel

/-- a whole number and a half -/
theorem half_word (n : Int) (h1 : -2251799813685248 < n) (h2 : n < 2251799813685248) :
    ∃ g r, floatBits .add .f64 (floatOfInt .f64 n) 4602678819172646912 = some g ∧ g = Ieee.double.word (decide (2 * n + 1 < 0)) r ∧ r < inf ∧ val r = (2 * n + 1).natAbs * 2 ^ (lp - 1) := by
  obtain ⟨hlt, hi, hs, hv⟩ := of_int n (by omega) (by omega)
  have hlp := lp_eq
  have hhl := hl_eq
  rcases read_cases (floatOfInt .f64 n) with ⟨_, m, p, e, v⟩ | ⟨h, _⟩ | ⟨h, _⟩
  · rw [hv] at v
    -- the sum, in units of the place that both have
    have hc : ∃ c : Nat, c = min p hl := ⟨_, rfl⟩
    obtain ⟨c, hc⟩ := hc
    have b0 : min ((-1074 : Int) + (p : Int)) (-53) = (-1074 : Int) + (c : Int) := by omega
    have k1 : ((-1074 : Int) + (p : Int) - ((-1074 : Int) + (c : Int))).toNat = p - c := by omega
    have k2 : ((-53 : Int) - ((-1074 : Int) + (c : Int))).toNat = hl - c := by omega
    obtain ⟨T, hT⟩ : ∃ T : Int, T = Ieee.signed (sgn (floatOfInt .f64 n)) m (p - c) + Ieee.signed false (2 ^ 52) (hl - c) := ⟨_, rfl⟩
    have hsum : (Ieee.double.read (floatOfInt .f64 n)).sum (Ieee.double.read 4602678819172646912) = some (.number (if T = 0 then sgn (floatOfInt .f64 n) && false else decide (T < 0)) T.natAbs ((-1074 : Int) + (c : Int))) := by
      rw [e, half_read]
      simp only [Ieee.Datum.sum]
      rw [b0, k1, k2, ← hT]
    have hTc : T * ((2 ^ c : Nat) : Int) = (2 * n + 1) * ((2 ^ (lp - 1) : Nat) : Int) := by
      rw [hT, Int.add_mul, signed_up, signed_up]
      have q1 : p - c + c = p := by omega
      have q2 : hl - c + c = hl := by omega
      rw [q1, q2, v, hs]
      have q3 : 2 ^ 52 * 2 ^ hl = 2 ^ (lp - 1) := by rw [← Nat.pow_add, show 52 + hl = lp - 1 from rfl]
      have q4 : n.natAbs * 2 ^ lp = 2 * n.natAbs * 2 ^ (lp - 1) := by
        rw [pow_lp, Nat.mul_comm 2, Nat.mul_assoc, Nat.mul_comm (2 ^ (lp - 1))]
      rw [q3, q4]
      generalize 2 ^ (lp - 1) = U
      have hq := half_eq n U
      simp only [Bool.false_eq_true, if_false, decide_eq_true_eq]
      by_cases hn : n < 0
      · rw [if_pos hn] at hq ⊢; exact hq
      · rw [if_neg hn] at hq ⊢; exact hq
    have hcl : c ≤ lp - 1 := by omega
    have hTe : T = (2 * n + 1) * ((2 ^ (lp - 1 - c) : Nat) : Int) := by
      have hp : (0 : Int) < ((2 ^ c : Nat) : Int) := by exact_mod_cast Nat.two_pow_pos c
      have hpw : ((2 ^ (lp - 1) : Nat) : Int) = ((2 ^ (lp - 1 - c) : Nat) : Int) * ((2 ^ c : Nat) : Int) := by
        rw [← Int.natCast_mul, ← Nat.pow_add, show lp - 1 - c + c = lp - 1 by omega]
      refine Int.eq_of_mul_eq_mul_right (Int.ne_of_gt hp) ?_
      rw [hTc, Int.mul_assoc, ← hpw]
    have hp : (0 : Int) < ((2 ^ (lp - 1 - c) : Nat) : Int) := by exact_mod_cast Nat.two_pow_pos _
    have hT0 : T ≠ 0 := by rw [hTe]; exact Int.mul_ne_zero (by omega) (Int.ne_of_gt hp)
    have hTs : decide (T < 0) = decide (2 * n + 1 < 0) := by
      rw [Bool.eq_iff_iff]; simp only [decide_eq_true_eq]
      rw [hTe]
      constructor
      · intro h
        refine Int.not_le.1 fun g => ?_
        have := Int.mul_nonneg g (Int.le_of_lt hp); omega
      · intro h
        exact Int.mul_neg_of_neg_of_pos h hp
    have hTa : T.natAbs = (2 * n + 1).natAbs * 2 ^ (lp - 1 - c) := by rw [hTe, Int.natAbs_mul, Int.natAbs_natCast]
    obtain ⟨r, hr, hi2, hvr⟩ := nearest_exact (decide (2 * n + 1 < 0)) (2 * n + 1).natAbs (lp - 1 - c) c (by omega) (by omega) (by omega)
    refine ⟨_, r, ?_, rfl, hi2, ?_⟩
    · show (Ieee.double.add (floatOfInt .f64 n) 4602678819172646912) = _
      unfold Ieee.Format.add
      rw [hsum]
      show some (Ieee.double.nearest _ _ _) = _
      rw [if_neg hT0, hTs, hTa, hr]
    · rw [hvr, show lp - 1 - c + c = lp - 1 by omega]
  · omega
  · omega

theorem whole_half (n : Int) (h1 : -2251799813685248 < n) (h2 : n < 2251799813685248) : ∃ g, floatBits .add .f64 (floatOfInt .f64 n) 4602678819172646912 = some g ∧ wholeB g = false := by
  obtain ⟨g, r, hg, rfl, hi, hv⟩ := half_word n h1 h2
  refine ⟨_, hg, ?_⟩
  have hlt : inf < 2 ^ 63 := by decide
  have hlp := lp_eq
  have hr := rung_word (decide (2 * n + 1 < 0)) r (by omega)
  have hs := sgn_word (decide (2 * n + 1 < 0)) r (by omega)
  generalize Ieee.double.word (decide (2 * n + 1 < 0)) r = x at *
  have hf : flr x ≤ 2 ^ 53 := by
    unfold flr; rw [hr, hv]
    rw [pow_lp, Nat.mul_comm, Nat.mul_div_mul_left _ _ (Nat.two_pow_pos _)]
    omega
  obtain ⟨q, hq, hqi, hqv⟩ := nearest_nat (sgn x) (flr x) hf
  have ht : rung (truncW x) = q ∧ nan (truncW x) = false := by
    unfold truncW
    rw [if_pos (by omega), hq]
    have := rung_word (sgn x) q (by omega)
    exact ⟨this, by unfold nan; rw [this]; simp; omega⟩
  have hne : q ≠ r := by
    intro h
    rw [h, hv] at hqv
    rw [pow_lp, Nat.mul_comm (2 ^ (lp - 1)), ← Nat.mul_assoc] at hqv
    have := Nat.eq_of_mul_eq_mul_right (Nat.two_pow_pos _) hqv
    omega
  unfold wholeB
  rw [eql_key, ht.2]
  have : ¬ key x = key (truncW x) := by
    unfold key; rw [ht.1, hr]
    cases sgn x <;> cases sgn (truncW x) <;> simp <;> omega
  rw [decide_eq_false this]; simp

theorem inf_is (n : Int) (w : World) : Calls Try.prog 31 #[.int .i64 n] w fun e w' => (∃ X, e = .returned (.float .f64 X) ∧ wholeB X = false) ∧ w = w' := by
  refine (inf_any n w).mono fun e w' ⟨h, g⟩ => ⟨⟨_, h, ?_⟩, g⟩
  split
  · decide +kernel
  · decide +kernel

theorem w_is (x : Nat) (v : Int) (b : Bool) (hv : wholeV x = v) (hb : wholeB x = b) (w : World) : Calls Try.prog 17 #[.float .f64 x] w fun e w' => e = .returned (.tuple #[.int .i64 v, .bool b]) ∧ w = w' := by
  rw [← hv, ← hb]; exact whole_any x w
theorem wholeV_no {x : Nat} (h : wholeB x = false) : wholeV x = 0 := by unfold wholeV; rw [h]; rfl

set_option maxHeartbeats 2000000 in
theorem walk (a0 : Int) (w : World) (_ : (Lit.int .i64 a0).wf = true) :
    Calls Try.prog 7 #[.int .i64 a0] w fun e w' => e = .returned (.bool true) ∧ Below w.heap.size w w' := by
  have K1 := Lib.hid (w_is 9221120237041090561 0 false (by decide +kernel) (by decide +kernel))
  have K2 := Lib.hid (w_is 4845873199050653696 9007199254740992 true (by decide +kernel) (by decide +kernel))
  have K3 := Lib.hid (w_is 4845873199050653697 0 false (by decide +kernel) (by decide +kernel))
  go_enter Try.func7, Try.ntmps7
  go_wp2_with fail
  generalize hN : wrap64 (wrap64 ((IntKind.u64.wrap a0).tmod 9007199254740992) - 4503599627370496) = N
  have hb : -4503599627370496 ≤ N ∧ N < 4503599627370496 := by
    rw [← hN]
    have h0 : IntKind.u64.wrap a0 = a0 % 18446744073709551616 := by simp [IntKind.wrap, IntKind.bits, IntKind.signed]
    rw [h0]
    have h1 : 0 ≤ a0 % 18446744073709551616 := Int.emod_nonneg _ (by decide)
    rw [Int.tmod_eq_emod_of_nonneg h1]
    unfold wrap64
    omega
  clear hN
  obtain ⟨hb1, hb2⟩ := hb
  obtain ⟨hB, hV⟩ := whole_int N (by omega) (by omega)
  have W1 := Lib.hid (w_is _ N true hV hB)
  clear hB hV
  refine (W1.out _).mono ?_; rintro e w' ⟨rfl, rfl⟩
  have hm : -2251799813685248 < N.tmod 2251799813685248 ∧ N.tmod 2251799813685248 < 2251799813685248 :=
    ⟨Int.lt_tmod_of_pos _ (by decide), Int.tmod_lt_of_pos _ (by decide)⟩
  obtain ⟨g, hg, hgB⟩ := whole_half (N.tmod 2251799813685248) hm.1 hm.2
  have W2 := Lib.hid (w_is g 0 false (wholeV_no hgB) hgB)
  have R := fun w => run_float_arith (P := Try.prog) w .add 25 .f64 _ _ g hg
  clear hg hgB hm
  go_wp2_with fail
  refine (W2.out _).mono ?_; rintro e w' ⟨rfl, rfl⟩
  clear R
  go_wp2_with fail
  refine (inf_is _ _).mono ?_; rintro e w' ⟨⟨X, rfl, hX⟩, rfl⟩
  have W3 := Lib.hid (w_is X 0 false (wholeV_no hX) hX)
  clear hX
  go_wp2_with fail
  refine (W3.out _).mono ?_; rintro e w' ⟨rfl, rfl⟩
  go_wp2_with fail
  refine (nan_any _).mono ?_; rintro e w' ⟨rfl, rfl⟩
  go_wp2_with fail
  refine (K1.out _).mono ?_; rintro e w' ⟨rfl, rfl⟩
  go_wp2_with fail
  refine (K2.out _).mono ?_; rintro e w' ⟨rfl, rfl⟩
  go_wp2_with fail
  refine (K3.out _).mono ?_; rintro e w' ⟨rfl, rfl⟩
  go_wp2_with fail
  refine (awake_any _).mono ?_; rintro e w' ⟨rfl, hb⟩
  go_wp2_with fail
  go_ret
  exact ⟨rfl, hb⟩

set_option maxRecDepth 100000 in
theorem lifted (os : Os) (started : os.Started) (H : Type) (enc : TypeId × Value → H) :
    ReturnsInHanded {} Try.checked os 7 .any (Rows.edgeWholesSpec.pre6 enc Try.prog Try.f7 Rows.edgeWholesRow.domain false) (Rows.edgeWholesSpec.post enc Try.prog Try.f7 false true false false) := by
  refine returnsInHanded_of_change (C := Try.checked) own started (by kernel_rfl) Try.func7
    (ChangeSpec.witness6 (enc := enc) (C := Try.checked) false ⟨#[], #[.int .i64 0], []⟩ 8 (by kernel_rfl) (by kernel_rfl) (by kernel_rfl) (by kernel_rfl)) ?_
  intro W base args ds gs before hval0 hW hcnd _
  have hval : ∀ (j : Nat) t v, Try.f7.params[j]? = some t → args[j]? = some v → Value.okWide Try.prog W .any base t v := hval0
  have hW' := hW
  have hlt := hW.lt
  obtain ⟨p, q, hA0, hV, hpq, hfz, hnd⟩ := hW
  have hA : DataW.TrodAll enc Try.prog W 0 (fun _ => true) true Try.f7.params.toList args.toList ds p := hA0
  rw [Try.params7] at hA hval
  obtain ⟨v0, vs0, d0, ds0, p0, q0, hargs, rfl, hp, h0, r0⟩ := trodAll_cons hA
  obtain ⟨rfl, rfl, rfl⟩ := trodAll_nil r0
  obtain rfl : args = #[v0] := by cases args; simp_all
  obtain ⟨rfl, rfl⟩ := trodVars_none hV
  have hlt' : ∀ x ∈ before, x.block < W.heap.size := fun x hx => hlt x hx
  obtain ⟨a0, rfl, rfl, rfl, w0⟩ := open_int Try.underlying3 (hval 0 3 v0 rfl rfl) h0
  refine (walk a0 W w0).mono fun e W' ⟨he, hb⟩ => ?_
  subst he
  exact ⟨_, rfl, law_post rfl (by kernel_rfl) hW' (by rw [Try.params7]; intro t ht; simp only [List.mem_cons, List.not_mem_nil, or_false] at ht; (repeat' (first | (rcases ht with rfl | ht) | subst ht)) <;> exact ⟨by kernel_rfl, of_decide_eq_true (by kernel_rfl)⟩) rfl hb⟩

theorem over : Rows.edgeWholesRow.holds Try.pinned (OpenSpec.ofChange Rows.edgeWholesSpec) :=
  OpenClaim.holds_of_wide 7 Try.f7 rfl rfl rfl rfl rfl rfl rfl ⟨rfl, rfl, rfl, rfl, rfl⟩ rfl rfl rfl rfl rfl (by kernel_rfl) Try.func7 (by kernel_rfl)
    (of_decide_eq_true (by kernel_rfl)) (by unfold Func.isWrapper; first | (rw [if_pos (by decide +kernel)]; kernel_rfl) | (rw [if_neg (by decide +kernel)]; exact ⟨rfl, rfl⟩))
    (fun os started H enc _ => lifted os started H enc)

theorem proved : Rows.EdgeWholesSaid := over
end Go.Proofs.Ytcccfmclcpldlaa.edgeWholes
