/-
  More bytes need no fewer words; they fit in; what is left of a free block is a block, or nothing. No conditions.
-/
import Derived.Test.YtnhhdkdjejfcjaaFtw
namespace Go.Proofs.Ytnhhdkdjejfcjaa.fitNeeds
set_option maxRecDepth 100000
open Go.Proofs.Ytnhhdkdjejfcjaa Go.ChangeShapes Go.WideShapes Go.ChangeAt Go.RowKit

theorem needN_nat {k : Nat} (h1 : 1 ≤ k) (h2 : k ≤ 448) : needN k = (((k + 7) / 8 + 1 : Nat) : Int) := by rw [needN, if_pos (by omega)]; omega

set_option maxHeartbeats 1000000 in
theorem go_ (a0 a1 : Int) (w : World) :
    Calls Try.prog 4 #[.int .i64 a0, .int .i64 a1] w fun e w' => e = .returned (.bool true) ∧ Below w.heap.size w w' := by
  obtain ⟨x, hx, _⟩ := u64_nat a0
  obtain ⟨y, hy, _⟩ := u64_nat a1
  have t1 : (x : Int).tmod 448 = ((x % 448 : Nat) : Int) := tmod_nat x 448
  have t2 : (y : Int).tmod 511 = ((y % 511 : Nat) : Int) := tmod_nat y 511
  obtain ⟨p, hp⟩ : ∃ p, x % 448 = p := ⟨_, rfl⟩
  obtain ⟨q, hq⟩ : ∃ p, y % 511 = p := ⟨_, rfl⟩
  rw [hp] at t1
  rw [hq] at t2
  have p1 : p < 448 := by omega
  have q1 : q < 511 := by omega
  have t3 : IntKind.i64.wrap (p : Int) = p := i64_nat _ (by omega)
  have t4 : IntKind.i64.wrap (q : Int) = q := i64_nat _ (by omega)
  obtain ⟨n, hn⟩ : ∃ n, 1 + p = n := ⟨_, rfl⟩
  obtain ⟨s, hs⟩ : ∃ s, 2 + q = s := ⟨_, rfl⟩
  have t5 : IntKind.i64.wrap (1 + (p : Int)) = (n : Int) := by rw [show 1 + (p : Int) = (n : Int) by omega]; exact i64_nat _ (by omega)
  have t6 : IntKind.i64.wrap (2 + (q : Int)) = (s : Int) := by rw [show 2 + (q : Int) = (s : Int) by omega]; exact i64_nat _ (by omega)
  have n1 : 1 ≤ n ∧ n ≤ 448 := by omega
  have s1 : 2 ≤ s ∧ s ≤ 512 := by omega
  have C1 := Lib.hid (fun w => need_is n w)
  rw [needN_nat n1.1 n1.2] at C1
  obtain ⟨d, hd⟩ : ∃ d, (n + 7) / 8 + 1 = d := ⟨_, rfl⟩
  rw [hd] at C1
  have d1 : 2 ≤ d ∧ d ≤ 57 := by omega
  obtain ⟨a, ha⟩ : ∃ a, d - 1 = a := ⟨_, rfl⟩
  obtain ⟨b, hb⟩ : ∃ a, d - 2 = a := ⟨_, rfl⟩
  obtain ⟨a8, ha8⟩ : ∃ c, a * 8 = c := ⟨_, rfl⟩
  obtain ⟨b8, hb8⟩ : ∃ c, b * 8 = c := ⟨_, rfl⟩
  have j1 : IntKind.i64.wrap ((d : Int) - 1) = (a : Int) := by rw [show (d : Int) - 1 = (a : Int) by omega]; exact i64_nat _ (by omega)
  have j2 : IntKind.i64.wrap ((a : Int) * 8) = (a8 : Int) := by rw [show (a : Int) * 8 = (a8 : Int) by omega]; exact i64_nat _ (by omega)
  have j3 : IntKind.i64.wrap ((d : Int) - 2) = (b : Int) := by rw [show (d : Int) - 2 = (b : Int) by omega]; exact i64_nat _ (by omega)
  have j4 : IntKind.i64.wrap ((b : Int) * 8) = (b8 : Int) := by rw [show (b : Int) * 8 = (b8 : Int) by omega]; exact i64_nat _ (by omega)
  have k1 : ¬ (d : Int) < 2 := by omega
  have k2 : ¬ (a8 : Int) < (n : Int) := by omega
  have k3 : ¬ (b8 : Int) ≥ (n : Int) := by omega
  obtain ⟨m, hm⟩ : ∃ m, n + 1 = m := ⟨_, rfl⟩
  have j5 : IntKind.i64.wrap ((n : Int) + 1) = (m : Int) := by rw [show (n : Int) + 1 = (m : Int) by omega]; exact i64_nat _ (by omega)
  obtain ⟨t, ht⟩ : ∃ t, takN s d = t := ⟨_, rfl⟩
  have C3 := Lib.hid (fun w => takes_is s d t (i64_of (by omega) (by omega)) ht w)
  have C4 := Lib.hid (fun w => need_is 0 w)
  have C5 := Lib.hid (fun w => need_is 449 w)
  rw [show needN 0 = 0 by decide] at C4
  rw [show needN 449 = 0 by decide] at C5
  have j6 : IntKind.i64.wrap ((d : Int) + 1) = ((d + 1 : Nat) : Int) := by rw [show (d : Int) + 1 = ((d + 1 : Nat) : Int) by omega]; exact i64_nat _ (by omega)
  obtain ⟨e, he⟩ : ∃ e, d + 1 = e := ⟨_, rfl⟩
  rw [he] at j6
  have C2 : Hid (n < 448 → ∃ r : Nat, d ≤ r ∧ ∀ w, Calls Try.prog 11 #[.int .i64 m] w fun e w' => e = .returned (.int .i64 r) ∧ w = w') := Lib.hid fun h => by
    refine ⟨(m + 7) / 8 + 1, by omega, fun w => ?_⟩
    have := need_is m w
    rwa [needN_nat (by omega) (by omega)] at this
  by_cases hsd : s < d
  · have k4 : (s : Int) < (d : Int) := by omega
    have t0 : t = 0 := by rw [← ht, takN_zero]; omega
    subst t0
    clear ht hp hq hn hs hd ha hb ha8 hb8 hm he n1 s1 d1
    by_cases hn : n < 448
    · have k5 : (n : Int) < 448 := by omega
      obtain ⟨r, hr, C2⟩ := C2.out hn
      have C2 := Lib.hid C2
      have k6 : ¬ (r : Int) < (d : Int) := by omega
      go_enter Try.func4, Try.ntmps4
      go_wp2_with fail
      refine (C1.out _).mono ?_; rintro e w' ⟨rfl, rfl⟩
      go_wp2_with fail
      refine (C2.out _).mono ?_; rintro e w' ⟨rfl, rfl⟩
      go_wp2_with fail
      refine (C3.out _).mono ?_; rintro e w' ⟨rfl, rfl⟩
      go_wp2_with fail
      refine (awake_any _).mono ?_; rintro e w' ⟨rfl, hb⟩
      go_wp2_with fail
      go_ret
      exact ⟨rfl, hb⟩
    · have k5 : ¬ (n : Int) < 448 := by omega
      clear C2
      go_enter Try.func4, Try.ntmps4
      go_wp2_with fail
      refine (C1.out _).mono ?_; rintro e w' ⟨rfl, rfl⟩
      go_wp2_with fail
      refine (C3.out _).mono ?_; rintro e w' ⟨rfl, rfl⟩
      go_wp2_with fail
      refine (awake_any _).mono ?_; rintro e w' ⟨rfl, hb⟩
      go_wp2_with fail
      go_ret
      exact ⟨rfl, hb⟩
  · have k4 : ¬ (s : Int) < (d : Int) := by omega
    obtain ⟨T, rfl⟩ : ∃ T : Nat, t = T := ⟨t.toNat, by rw [← ht, takN]; split; split <;> omega; omega⟩
    have hT : (T = s ∧ s - d < 2) ∨ (T = d ∧ 2 ≤ s - d) := by
      rw [takN, if_pos (by omega)] at ht
      split at ht <;> omega
    have k7 : (T : Int) ≥ (d : Int) := by omega
    obtain ⟨f, hf⟩ : ∃ f, s - T = f := ⟨_, rfl⟩
    have j7 : IntKind.i64.wrap ((s : Int) - (T : Int)) = (f : Int) := by rw [show (s : Int) - (T : Int) = (f : Int) by omega]; exact i64_nat _ (by omega)
    have k8 : (T : Int) ≤ (e : Int) := by omega
    have k9 : ((T : Int) == (s : Int)) = true ∨ ((T : Int) == (s : Int)) = false ∧ (f : Int) ≥ 2 := by
      by_cases h : T = s
      · left; rw [h]; simp
      · right; exact ⟨beq_eq_false_iff_ne.2 (by omega), by omega⟩
    clear ht hp hq hn hs hd ha hb ha8 hb8 hm he n1 s1 d1 hT hf
    rcases k9 with k9 | ⟨k9, k10⟩
    all_goals
      by_cases hn : n < 448
      · have k5 : (n : Int) < 448 := by omega
        obtain ⟨r, hr, C2⟩ := C2.out hn
        have C2 := Lib.hid C2
        have k6 : ¬ (r : Int) < (d : Int) := by omega
        go_enter Try.func4, Try.ntmps4
        go_wp2_with fail
        refine (C1.out _).mono ?_; rintro e w' ⟨rfl, rfl⟩
        go_wp2_with fail
        refine (C2.out _).mono ?_; rintro e w' ⟨rfl, rfl⟩
        go_wp2_with fail
        refine (C3.out _).mono ?_; rintro e w' ⟨rfl, rfl⟩
        go_wp2_with fail
        refine (C4.out _).mono ?_; rintro e w' ⟨rfl, rfl⟩
        go_wp2_with fail
        refine (C5.out _).mono ?_; rintro e w' ⟨rfl, rfl⟩
        go_wp2_with fail
        refine (awake_any _).mono ?_; rintro e w' ⟨rfl, hb⟩
        go_wp2_with fail
        go_ret
        exact ⟨rfl, hb⟩
      · have k5 : ¬ (n : Int) < 448 := by omega
        clear C2
        go_enter Try.func4, Try.ntmps4
        go_wp2_with fail
        refine (C1.out _).mono ?_; rintro e w' ⟨rfl, rfl⟩
        go_wp2_with fail
        refine (C3.out _).mono ?_; rintro e w' ⟨rfl, rfl⟩
        go_wp2_with fail
        refine (C4.out _).mono ?_; rintro e w' ⟨rfl, rfl⟩
        go_wp2_with fail
        refine (C5.out _).mono ?_; rintro e w' ⟨rfl, rfl⟩
        go_wp2_with fail
        refine (awake_any _).mono ?_; rintro e w' ⟨rfl, hb⟩
        go_wp2_with fail
        go_ret
        exact ⟨rfl, hb⟩

theorem walk (a0 a1 : Int) (w : World) (_ : (Lit.int .i64 a0).wf = true) (_ : (Lit.int .i64 a1).wf = true) :
    Calls Try.prog 4 #[.int .i64 a0, .int .i64 a1] w fun e w' => e = .returned (.bool true) ∧ Below w.heap.size w w' := go_ a0 a1 w

set_option maxRecDepth 100000 in
theorem lifted (os : Os) (started : os.Started) (H : Type) (enc : TypeId × Value → H) :
    ReturnsInHanded {} Try.checked os 4 .any (Rows.fitNeedsSpec.pre6 enc Try.prog Try.f4 Rows.fitNeedsRow.domain false) (Rows.fitNeedsSpec.post enc Try.prog Try.f4 false true false false) := by
  refine returnsInHanded_of_change (C := Try.checked) own started (by kernel_rfl) Try.func4
    (ChangeSpec.witness6 (enc := enc) (C := Try.checked) false ⟨#[], #[.int .i64 0, .int .i64 0], []⟩ 8 (by kernel_rfl) (by kernel_rfl) (by kernel_rfl) (by kernel_rfl)) ?_
  intro W base args ds gs before hval0 hW hcnd _
  have hval : ∀ (j : Nat) t v, Try.f4.params[j]? = some t → args[j]? = some v → Value.okWide Try.prog W .any base t v := hval0
  have hW' := hW
  have hlt := hW.lt
  obtain ⟨p, q, hA0, hV, hpq, hfz, hnd⟩ := hW
  have hA : DataW.TrodAll enc Try.prog W 0 (fun _ => true) true Try.f4.params.toList args.toList ds p := hA0
  rw [Try.params4] at hA hval
  obtain ⟨v0, vs0, d0, ds0, p0, q0, hargs, rfl, hp, h0, r0⟩ := trodAll_cons hA
  obtain ⟨v1, vs1, d1, ds1, p1, q1, rfl, rfl, rfl, h1, r1⟩ := trodAll_cons r0
  obtain ⟨rfl, rfl, rfl⟩ := trodAll_nil r1
  obtain rfl : args = #[v0, v1] := by cases args; simp_all
  obtain ⟨rfl, rfl⟩ := trodVars_none hV
  have hlt' : ∀ x ∈ before, x.block < W.heap.size := fun x hx => hlt x hx
  obtain ⟨a0, rfl, rfl, rfl, w0⟩ := open_int Try.underlying3 (hval 0 3 v0 rfl rfl) h0
  obtain ⟨a1, rfl, rfl, rfl, w1⟩ := open_int Try.underlying3 (hval 1 3 v1 rfl rfl) h1
  refine (walk a0 a1 W w0 w1).mono fun e W' ⟨he, hb⟩ => ?_
  subst he
  exact ⟨_, rfl, law_post rfl (by kernel_rfl) hW' (by rw [Try.params4]; intro t ht; simp only [List.mem_cons, List.not_mem_nil, or_false] at ht; (repeat' (first | (rcases ht with rfl | ht) | subst ht)) <;> exact ⟨by kernel_rfl, of_decide_eq_true (by kernel_rfl)⟩) rfl hb⟩

theorem over : Rows.fitNeedsRow.holds Try.pinned (OpenSpec.ofChange Rows.fitNeedsSpec) :=
  OpenClaim.holds_of_wide 4 Try.f4 rfl rfl rfl rfl rfl rfl rfl ⟨rfl, rfl, rfl, rfl, rfl⟩ rfl rfl rfl rfl rfl (by kernel_rfl) Try.func4 (by kernel_rfl)
    (of_decide_eq_true (by kernel_rfl)) (by unfold Func.isWrapper; first | (rw [if_pos (by decide +kernel)]; kernel_rfl) | (rw [if_neg (by decide +kernel)]; exact ⟨rfl, rfl⟩))
    (fun os started H enc _ => lifted os started H enc)

theorem proved : Rows.FitNeedsSaid := over
end Go.Proofs.Ytnhhdkdjejfcjaa.fitNeeds
