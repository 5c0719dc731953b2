/-
  A quotient is told just where it is a number and no infinity. No conditions.
-/
import Derived.Test.YtcccfmclcpldlaaLaw
import Derived.Test.YtcccfmclcpldlaaTwo
namespace Go.Proofs.Ytcccfmclcpldlaa.edgeDivs
open Go.Proofs.Ytcccfmclcpldlaa Go.Proofs.Ytcccfmclcpldlaa.D Go.ChangeShapes Go.WideShapes Go.ChangeAt Go.RowKit

theorem self_quo {y : Nat} (h0 : rung y ≠ 0) : Ieee.double.div y y = some 4607182418800017408 ∨ Ieee.double.div y y = none := by
  unfold Ieee.Format.div
  rcases read_cases y with ⟨_, m, p, e, v⟩ | ⟨_, e⟩ | ⟨_, t, e⟩
  · have hm : m ≠ 0 := by
      intro hm
      have : val (rung y) = 0 := by rw [← v, hm, Nat.zero_mul]
      have h1 := val_lt (Nat.pos_of_ne_zero h0)
      rw [val_zero] at h1; omega
    rw [e]
    simp only [Ieee.Datum.quotient]
    rw [if_neg hm]
    have e1 : Ieee.double.fractionBits + 2 + m.log2 - m.log2 = 54 := by show 52 + 2 + m.log2 - m.log2 = 54; omega
    have e2 : m <<< 54 / m = 2 ^ 54 := by rw [Nat.shiftLeft_eq, Nat.mul_comm]; exact Nat.mul_div_cancel _ (Nat.pos_of_ne_zero hm)
    have e3 : m <<< 54 % m = 0 := by rw [Nat.shiftLeft_eq]; exact Nat.mul_mod_right _ _
    have e4 : ((-1074 : Int) + (p : Int) - (-1074 + (p : Int)) - ((54 : Nat) : Int) - 1) = -55 := by omega
    rw [e1, e2, e3, e4]
    left
    cases sgn y <;> decide +kernel
  · rw [e]; right; rfl
  · rw [e]; right; rfl

theorem self_div (y : Nat) : divB y y = true → divV y y = 4607182418800017408 := by
  unfold divB divV divR
  by_cases h0 : rung y = 0
  · rw [if_pos h0]; intro h; cases h
  · rw [if_neg h0]
    rcases self_quo h0 with h | h
    · rw [h]; intro _; decide +kernel
    · rw [h]; intro h; cases h

theorem div_no {x y : Nat} (h : divB x y = false) : divV x y = 0 := by
  unfold divB at h; unfold divV
  cases g : divR x y
  · rfl
  · rw [g] at h; cases h

theorem div_yes {x y : Nat} (h : divB x y = true) : rung y ≠ 0 ∧ Ieee.double.div x y = some (divV x y) ∧ nan (divV x y) = false ∧ infB (divV x y) = false := by
  unfold divB at h
  unfold divV
  unfold divR at *
  by_cases h0 : rung y = 0
  · rw [if_pos h0] at h; cases h
  · rw [if_neg h0] at h ⊢
    cases g : Ieee.double.div x y with
    | none => rw [g] at h; cases h
    | some q =>
      rw [g] at h
      simp only at h ⊢
      cases hq : (nan q || infB q)
      · simp only [Bool.or_eq_false_iff] at hq
        exact ⟨h0, rfl, hq.1, hq.2⟩
      · rw [hq] at h; cases h

theorem divV_lt (x y : Nat) : divV x y < 2 ^ 64 := by
  cases h : divB x y
  · rw [div_no h]; decide
  · exact Ieee.double.div_lt (div_yes h).2.1

/-- what a quotient is that is not told -/
theorem no_parts {x y r : Nat} (h : divB x y = false) (h0 : rung y ≠ 0) (hq : (Ieee.double.div x y = some r) ∨ (Ieee.double.div x y = none ∧ nan r = true)) : nan r = true ∨ (nan r = false ∧ infB r = true) := by
  have := div_parts hq h0
  unfold divB at h
  rw [this] at h
  cases g : nan r
  · rw [g] at h
    cases k : infB r
    · rw [k] at h; cases h
    · exact .inr ⟨rfl, rfl⟩
  · exact .inl rfl

theorem d_any (x y : Nat) (hx : x < 2 ^ 64) (hy : y < 2 ^ 64) (v : Nat) (b : Bool) (hv : divV x y = v) (hb : divB x y = b) (w : World) :
    Calls Try.prog 15 #[.float .f64 x, .float .f64 y] w fun e w' => e = .returned (.tuple #[.float .f64 v, .bool b]) ∧ Below w.heap.size w w' :=
  (div_any x y w hx hy).mono fun e w' ⟨h, n, g⟩ => ⟨by rw [h, hv, hb], by rw [g]; exact below_drewN (Below.refl _ _) n⟩

theorem below_more {w w1 w2 : World} (h : Below w.heap.size w w1) (h2 : Below w1.heap.size w1 w2) : Below w.heap.size w w2 := h.trans (h2.mono h.size)

set_option maxHeartbeats 2000000 in
theorem walk_no (x y : Nat) (w : World) (hx : x < 2 ^ 64) (hy : y < 2 ^ 64) (h : divB x y = false) :
    Calls Try.prog 8 #[.int .u64 x, .int .u64 y] w fun e w' => e = .returned (.bool true) ∧ Below w.heap.size w w' := by
  have D := Lib.hid (d_any x y hx hy 0 false (div_no h) h)
  have S := Lib.hid (same_is 0 0 (by decide) (by decide) true (by simp))
  have Q := Lib.hid (quo_run Try.prog x y)
  have P := Lib.hid (@no_parts x y · h)
  have z := zero_eq y
  by_cases h0 : rung y = 0
  · rw [decide_eq_true h0] at z
    clear hx hy h h0
    go_enter Try.func8, Try.ntmps8
    go_wp2_with fail
    refine (D.out _).mono ?_; rintro e w' ⟨rfl, hb1⟩
    obtain ⟨r, w2, hrun, hw, _, _⟩ := Q.out w'
    have B2 : Hid (Below w.heap.size w w2) := Lib.hid (by obtain ⟨n, rfl⟩ := hw; exact below_drewN hb1 n)
    clear hw hb1
    go_wp2_with fail
    refine (S.out _).mono ?_; rintro e w' ⟨rfl, rfl⟩
    go_wp2_with fail
    refine (awake_any _).mono ?_; rintro e w3 ⟨rfl, hb⟩
    go_wp2_with fail
    go_ret
    exact ⟨rfl, below_more B2.out hb⟩
  · rw [decide_eq_false h0] at z
    have H0 := Lib.hid h0
    have H := Lib.hid h
    clear hx hy h h0
    go_enter Try.func8, Try.ntmps8
    go_wp2_with fail
    refine (D.out _).mono ?_; rintro e w' ⟨rfl, hb1⟩
    obtain ⟨r, w2, hrun, hw, hr, hq⟩ := Q.out w'
    have B2 : Hid (Below w.heap.size w w2) := Lib.hid (by obtain ⟨n, rfl⟩ := hw; exact below_drewN hb1 n)
    have n1 : (FloatKind.f64.format.order r r != some .eq) = nan r := ne_self r
    have I := Lib.hid (isInf_any r · hr)
    rcases no_parts H.out H0.out hq with g | ⟨g, k⟩
    · rw [g] at n1
      clear hw hb1 hq hr g
      go_wp2_with fail
      refine (S.out _).mono ?_; rintro e w' ⟨rfl, rfl⟩
      go_wp2_with fail
      refine (awake_any _).mono ?_; rintro e w3 ⟨rfl, hb⟩
      go_wp2_with fail
      go_ret
      exact ⟨rfl, below_more B2.out hb⟩
    · rw [g] at n1
      clear hw hb1 hq hr g
      go_wp2_with fail
      refine (S.out _).mono ?_; rintro e w' ⟨rfl, rfl⟩
      go_wp2_with fail
      refine (I.out _).mono ?_; rintro e w' ⟨rfl, rfl⟩
      go_wp2_with fail
      refine (awake_any _).mono ?_; rintro e w3 ⟨rfl, hb⟩
      go_wp2_with fail
      go_ret
      exact ⟨rfl, below_more B2.out hb⟩

set_option maxHeartbeats 2000000 in
theorem walk_yes (x y : Nat) (w : World) (hx : x < 2 ^ 64) (hy : y < 2 ^ 64) (h : divB x y = true) :
    Calls Try.prog 8 #[.int .u64 x, .int .u64 y] w fun e w' => e = .returned (.bool true) ∧ Below w.heap.size w w' := by
  obtain ⟨h0, hq, hn, hi⟩ := div_yes h
  have hlt := divV_lt x y
  have D := Lib.hid (d_any x y hx hy _ true rfl h)
  generalize divV x y = q at *
  have z : (FloatKind.f64.format.order y 0 != some .eq) = true := by rw [bne, zero_eq, decide_eq_false h0]; rfl
  have n1 : (FloatKind.f64.format.order q q == some .eq) = true := by rw [eql_key, hn]; simp
  have I := Lib.hid (fun w => (isInf_any q w hlt).mono (R' := fun e w' => e = .returned (.bool false) ∧ w = w') fun e w' ⟨a, b⟩ => ⟨by rw [a, hi], b⟩)
  have R := fun w => run_float_arith (P := Try.prog) w .quo 25 .f64 x y q hq
  have S := Lib.hid (same_is q q hlt hlt true (by simp))
  have D2 := Lib.hid (d_any y y hy hy)
  cases g : divB y y
  case false =>
    have D2 := Lib.hid (D2.out 0 false (div_no g) g)
    clear hx hy h h0 hq hn hi hlt g
    go_enter Try.func8, Try.ntmps8
    go_wp2_with fail
    refine (D.out _).mono ?_; rintro e w' ⟨rfl, hb1⟩
    go_wp2_with fail
    refine (D2.out _).mono ?_; rintro e w2 ⟨rfl, hb2⟩
    go_wp2_with fail
    refine (I.out _).mono ?_; rintro e w' ⟨rfl, rfl⟩
    go_wp2_with fail
    refine (S.out _).mono ?_; rintro e w' ⟨rfl, rfl⟩
    go_wp2_with fail
    refine (awake_any _).mono ?_; rintro e w3 ⟨rfl, hb⟩
    go_wp2_with fail
    go_ret
    exact ⟨rfl, below_more (below_more hb1 hb2) hb⟩
  case true =>
    have D2 := Lib.hid (D2.out 4607182418800017408 true (self_div y g) g)
    have o1 : (FloatKind.f64.format.order 4607182418800017408 4607182418800017408 == some .eq) = true := by decide +kernel
    clear hx hy h h0 hq hn hi hlt g
    go_enter Try.func8, Try.ntmps8
    go_wp2_with fail
    refine (D.out _).mono ?_; rintro e w' ⟨rfl, hb1⟩
    go_wp2_with fail
    refine (D2.out _).mono ?_; rintro e w2 ⟨rfl, hb2⟩
    go_wp2_with fail
    refine (I.out _).mono ?_; rintro e w' ⟨rfl, rfl⟩
    go_wp2_with fail
    refine (S.out _).mono ?_; rintro e w' ⟨rfl, rfl⟩
    go_wp2_with fail
    refine (awake_any _).mono ?_; rintro e w3 ⟨rfl, hb⟩
    go_wp2_with fail
    go_ret
    exact ⟨rfl, below_more (below_more hb1 hb2) hb⟩

theorem walk (a0 a1 : Int) (w : World) (w0 : (Lit.int .u64 a0).wf = true) (w1 : (Lit.int .u64 a1).wf = true) :
    Calls Try.prog 8 #[.int .u64 a0, .int .u64 a1] w fun e w' => e = .returned (.bool true) ∧ Below w.heap.size w w' := by
  obtain ⟨x, rfl, hx⟩ := nat_of_u64 w0
  obtain ⟨y, rfl, hy⟩ := nat_of_u64 w1
  cases h : divB x y
  · exact walk_no x y w hx hy h
  · exact walk_yes x y w hx hy h

set_option maxRecDepth 100000 in
theorem lifted (os : Os) (started : os.Started) (H : Type) (enc : TypeId × Value → H) :
    ReturnsInHanded {} Try.checked os 8 .any (Rows.edgeDivsSpec.pre6 enc Try.prog Try.f8 Rows.edgeDivsRow.domain false) (Rows.edgeDivsSpec.post enc Try.prog Try.f8 false true false false) := by
  refine returnsInHanded_of_change (C := Try.checked) own started (by kernel_rfl) Try.func8
    (ChangeSpec.witness6 (enc := enc) (C := Try.checked) false ⟨#[], #[.int .u64 0, .int .u64 0], []⟩ 8 (by kernel_rfl) (by kernel_rfl) (by kernel_rfl) (by kernel_rfl)) ?_
  intro W base args ds gs before hval0 hW hcnd _
  have hval : ∀ (j : Nat) t v, Try.f8.params[j]? = some t → args[j]? = some v → Value.okWide Try.prog W .any base t v := hval0
  have hW' := hW
  have hlt := hW.lt
  obtain ⟨p, q, hA0, hV, hpq, hfz, hnd⟩ := hW
  have hA : DataW.TrodAll enc Try.prog W 0 (fun _ => true) true Try.f8.params.toList args.toList ds p := hA0
  rw [Try.params8] at hA hval
  obtain ⟨v0, vs0, d0, ds0, p0, q0, hargs, rfl, hp, h0, r0⟩ := trodAll_cons hA
  obtain ⟨v1, vs1, d1, ds1, p1, q1, rfl, rfl, rfl, h1, r1⟩ := trodAll_cons r0
  obtain ⟨rfl, rfl, rfl⟩ := trodAll_nil r1
  obtain rfl : args = #[v0, v1] := by cases args; simp_all
  obtain ⟨rfl, rfl⟩ := trodVars_none hV
  have hlt' : ∀ x ∈ before, x.block < W.heap.size := fun x hx => hlt x hx
  obtain ⟨a0, rfl, rfl, rfl, w0⟩ := open_int Try.underlying22 (hval 0 22 v0 rfl rfl) h0
  obtain ⟨a1, rfl, rfl, rfl, w1⟩ := open_int Try.underlying22 (hval 1 22 v1 rfl rfl) h1
  refine (walk a0 a1 W w0 w1).mono fun e W' ⟨he, hb⟩ => ?_
  subst he
  exact ⟨_, rfl, law_post rfl (by kernel_rfl) hW' (by rw [Try.params8]; intro t ht; simp only [List.mem_cons, List.not_mem_nil, or_false] at ht; (repeat' (first | (rcases ht with rfl | ht) | subst ht)) <;> exact ⟨by kernel_rfl, of_decide_eq_true (by kernel_rfl)⟩) rfl hb⟩

theorem over : Rows.edgeDivsRow.holds Try.pinned (OpenSpec.ofChange Rows.edgeDivsSpec) :=
  OpenClaim.holds_of_wide 8 Try.f8 rfl rfl rfl rfl rfl rfl rfl ⟨rfl, rfl, rfl, rfl, rfl⟩ rfl rfl rfl rfl rfl (by kernel_rfl) Try.func8 (by kernel_rfl)
    (of_decide_eq_true (by kernel_rfl)) (by unfold Func.isWrapper; first | (rw [if_pos (by decide +kernel)]; kernel_rfl) | (rw [if_neg (by decide +kernel)]; exact ⟨rfl, rfl⟩))
    (fun os started H enc _ => lifted os started H enc)

theorem proved : Rows.EdgeDivsSaid := over
end Go.Proofs.Ytcccfmclcpldlaa.edgeDivs
