/-
  Any table, any number of slots, any slot: what package spare tells is what the reference tells. No conditions.
-/
import Derived.Test.YtjfedklpmbnjcaaSpw
namespace Go.Proofs.Ytjfedklpmbnjcaa.spareForms
open Go.Proofs.Ytjfedklpmbnjcaa Go.ChangeShapes Go.WideShapes Go.ChangeAt Go.RowKit

theorem far (p : Option Addr) (n cap : Nat) (s a : Int) (w : World) (h : 200 < n ∨ 1099511627776 < s) :
    Calls Try.prog 3 #[.slice p n cap, .int .i64 s, .int .i64 a] w fun e w' => e = .returned (.bool true) ∧ Below w.heap.size w w' := by
  by_cases h1 : 200 < n
  · clear h
    go_enter Try.func3, Try.ntmps3
    go_wp2_with fail
    refine (awake_any _).mono ?_; rintro e w' ⟨rfl, hb⟩
    go_wp2_with fail
    go_ret
    exact ⟨rfl, hb⟩
  · have h2 : 1099511627776 < s := by omega
    clear h
    go_enter Try.func3, Try.ntmps3
    go_wp2_with fail
    refine (awake_any _).mono ?_; rintro e w' ⟨rfl, hb⟩
    go_wp2_with fail
    go_ret
    exact ⟨rfl, hb⟩

set_option maxHeartbeats 1000000 in
theorem near (l : List Int) (p : Option Addr) (cap : Nat) (s a : Int) (w : World) (hr : RU w (.slice p l.length cap) l) (hs : (Lit.int .i64 s).wf = true) (h1 : ¬ 200 < l.length) (h2 : ¬ 1099511627776 < s) :
    Calls Try.prog 3 #[.slice p l.length cap, .int .i64 s, .int .i64 a] w fun e w' => e = .returned (.bool true) ∧ Below w.heap.size w w' := by
  have hm : s + l.length < 4611686018427387904 := by omega
  have C1 := Lib.hid (may_any _ _ s w hr hs)
  have C2 := Lib.hid (rmay_any _ _ s w hr hs)
  have C3 := Lib.hid (place_any _ _ s a w hr hm)
  have C9 := Lib.hid fun w => dead_any s w hs
  have e1 : IntKind.u64.wrap s = s ∨ s < 1 := by have := i64_wf hs; by_cases h : s < 1; exact .inr h; exact .inl (by simp [IntKind.wrap, IntKind.signed, IntKind.bits]; omega)
  have e2 : IntKind.u64.wrap (s + 1) = s + 1 ∨ s < 1 := by have := i64_wf hs; by_cases h : s < 1; exact .inr h; exact .inl (by simp [IntKind.wrap, IntKind.signed, IntKind.bits]; omega)
  have R := Lib.hid hr
  have M := Lib.hid hm
  clear hr hm hs
  obtain ⟨m, hmt⟩ : ∃ m, mayT l s = m := ⟨_, rfl⟩
  obtain ⟨q, hq⟩ : ∃ q, placeT l s a = q := ⟨_, rfl⟩
  obtain ⟨x, hx⟩ : ∃ x, nextT l = x := ⟨_, rfl⟩
  obtain ⟨y, hy⟩ : ∃ y, leftT l = y := ⟨_, rfl⟩
  have X := Lib.hid hx; have Y := Lib.hid hy; have Q := Lib.hid hq
  rw [hmt] at C1 C2
  rw [hq] at C3
  clear hmt hq hx hy
  by_cases c : s < 1
  · have d1 : deadT s = 0 := if_pos c
    rw [d1] at C9
    have f1 := e1.resolve_right
    have f2 := e2.resolve_right
    first | have f1 := f1 c | (clear f1 f2)
    first | have f2 := f2 c | skip
    clear d1 e1 e2
    go_enter Try.func3, Try.ntmps3
    go_wp2_with fail
    refine (C1.out).mono ?_; rintro e w' ⟨rfl, rfl⟩
    go_wp2_with fail
    refine (C2.out).mono ?_; rintro e w' ⟨rfl, rfl⟩
    go_wp2_with fail
    refine (C3.out).mono ?_; rintro e w1 ⟨rfl, h1⟩
    have R1 := ru_below R.out h1
    have B1 := Lib.hid h1
    have C4 := Lib.hid (rplace_any _ _ s a w1 R1 M.out)
    have C5 := Lib.hid (next_any _ _ w1 R1)
    have C6 := Lib.hid (rnext_any _ _ w1 R1)
    have C7 := Lib.hid (left_any _ _ w1 R1)
    have C8 := Lib.hid (rleft_any _ _ w1 R1)
    rw [Q.out] at C4
    rw [X.out] at C5 C6
    rw [Y.out] at C7 C8
    clear h1 R1
    go_wp2_with fail
    refine (C4.out).mono ?_; rintro e w' ⟨rfl, rfl⟩
    go_wp2_with fail
    refine (C5.out).mono ?_; rintro e w' ⟨rfl, rfl⟩
    go_wp2_with fail
    refine (C6.out).mono ?_; rintro e w' ⟨rfl, rfl⟩
    go_wp2_with fail
    refine (C7.out).mono ?_; rintro e w' ⟨rfl, rfl⟩
    go_wp2_with fail
    refine (C8.out).mono ?_; rintro e w' ⟨rfl, rfl⟩
    go_wp2_with fail
    refine (C9.out _).mono ?_; rintro e w' ⟨rfl, rfl⟩
    go_wp2_with fail
    refine (awake_any _).mono ?_; rintro e w2 ⟨rfl, h2⟩
    have B2 := Lib.hid (below_more B1.out h2)
    clear h2
    go_wp2
    go_ret
    exact ⟨rfl, B2.out⟩
  · have d1 : deadT s = s+1 := if_neg c
    rw [d1] at C9
    have f1 := e1.resolve_right
    have f2 := e2.resolve_right
    first | have f1 := f1 c | (clear f1 f2)
    first | have f2 := f2 c | skip
    clear d1 e1 e2
    go_enter Try.func3, Try.ntmps3
    go_wp2_with fail
    refine (C1.out).mono ?_; rintro e w' ⟨rfl, rfl⟩
    go_wp2_with fail
    refine (C2.out).mono ?_; rintro e w' ⟨rfl, rfl⟩
    go_wp2_with fail
    refine (C3.out).mono ?_; rintro e w1 ⟨rfl, h1⟩
    have R1 := ru_below R.out h1
    have B1 := Lib.hid h1
    have C4 := Lib.hid (rplace_any _ _ s a w1 R1 M.out)
    have C5 := Lib.hid (next_any _ _ w1 R1)
    have C6 := Lib.hid (rnext_any _ _ w1 R1)
    have C7 := Lib.hid (left_any _ _ w1 R1)
    have C8 := Lib.hid (rleft_any _ _ w1 R1)
    rw [Q.out] at C4
    rw [X.out] at C5 C6
    rw [Y.out] at C7 C8
    clear h1 R1
    go_wp2_with fail
    refine (C4.out).mono ?_; rintro e w' ⟨rfl, rfl⟩
    go_wp2_with fail
    refine (C5.out).mono ?_; rintro e w' ⟨rfl, rfl⟩
    go_wp2_with fail
    refine (C6.out).mono ?_; rintro e w' ⟨rfl, rfl⟩
    go_wp2_with fail
    refine (C7.out).mono ?_; rintro e w' ⟨rfl, rfl⟩
    go_wp2_with fail
    refine (C8.out).mono ?_; rintro e w' ⟨rfl, rfl⟩
    go_wp2_with fail
    refine (C9.out _).mono ?_; rintro e w' ⟨rfl, rfl⟩
    go_wp2_with fail
    refine (awake_any _).mono ?_; rintro e w2 ⟨rfl, h2⟩
    have B2 := Lib.hid (below_more B1.out h2)
    clear h2
    go_wp2
    go_ret
    exact ⟨rfl, B2.out⟩

theorem walk (l0 : List Int) (v0 : Value) (a1 a2 : Int) (w : World) (w0 : IntsIn .u64 w v0 l0) (w1 : (Lit.int .i64 a1).wf = true) (_ : (Lit.int .i64 a2).wf = true) :
    Calls Try.prog 3 #[v0, .int .i64 a1, .int .i64 a2] w fun e w' => e = .returned (.bool true) ∧ Below w.heap.size w w' := by
  have hr := ru_in w0
  obtain ⟨p, cap, rfl, _⟩ := w0
  by_cases h : 200 < l0.length
  · exact far p _ cap a1 a2 w (.inl h)
  · by_cases h2 : 1099511627776 < a1
    · exact far p _ cap a1 a2 w (.inr h2)
    · exact near l0 p cap a1 a2 w hr w1 h h2

set_option maxRecDepth 100000 in
theorem lifted (os : Os) (started : os.Started) (H : Type) (enc : TypeId × Value → H) :
    ReturnsInHanded {} Try.checked os 3 .any (Rows.spareFormsSpec.pre6 enc Try.prog Try.f3 Rows.spareFormsRow.domain false) (Rows.spareFormsSpec.post enc Try.prog Try.f3 false true false false) := by
  refine returnsInHanded_of_change (C := Try.checked) own started (by kernel_rfl) Try.func3
    (ChangeSpec.witness6 (enc := enc) (C := Try.checked) false ⟨#[], #[.slice none 0 0, .int .i64 0, .int .i64 0], []⟩ 8 (by kernel_rfl) (by kernel_rfl) (by kernel_rfl) (by kernel_rfl)) ?_
  intro W base args ds gs before hval0 hW hcnd _
  have hval : ∀ (j : Nat) t v, Try.f3.params[j]? = some t → args[j]? = some v → Value.okWide Try.prog W .any base t v := hval0
  have hW' := hW
  have hlt := hW.lt
  obtain ⟨p, q, hA0, hV, hpq, hfz, hnd⟩ := hW
  have hA : DataW.TrodAll enc Try.prog W 0 (fun _ => true) true Try.f3.params.toList args.toList ds p := hA0
  rw [Try.params3] at hA hval
  obtain ⟨v0, vs0, d0, ds0, p0, q0, hargs, rfl, hp, h0, r0⟩ := trodAll_cons hA
  obtain ⟨v1, vs1, d1, ds1, p1, q1, rfl, rfl, rfl, h1, r1⟩ := trodAll_cons r0
  obtain ⟨v2, vs2, d2, ds2, p2, q2, rfl, rfl, rfl, h2, r2⟩ := trodAll_cons r1
  obtain ⟨rfl, rfl, rfl⟩ := trodAll_nil r2
  obtain rfl : args = #[v0, v1, v2] := by cases args; simp_all
  obtain ⟨rfl, rfl⟩ := trodVars_none hV
  have hlt' : ∀ x ∈ before, x.block < W.heap.size := fun x hx => hlt x hx
  obtain ⟨l0, w0⟩ := ints_in Try.underlying22 Try.underlying24 (by kernel_rfl) (hval 0 22 v0 rfl rfl) (fun x hx => hlt' x (by rw [hpq, hp]; simp [hx])) h0
  obtain ⟨a1, rfl, rfl, rfl, w1⟩ := open_int Try.underlying3 (hval 1 3 v1 rfl rfl) h1
  obtain ⟨a2, rfl, rfl, rfl, w2⟩ := open_int Try.underlying3 (hval 2 3 v2 rfl rfl) h2
  refine (walk l0 v0 a1 a2 W w0 w1 w2).mono fun e W' ⟨he, hb⟩ => ?_
  subst he
  exact ⟨_, rfl, law_post rfl (by kernel_rfl) hW' (by rw [Try.params3]; intro t ht; simp only [List.mem_cons, List.not_mem_nil, or_false] at ht; (repeat' (first | (rcases ht with rfl | ht) | subst ht)) <;> exact ⟨by kernel_rfl, of_decide_eq_true (by kernel_rfl)⟩) rfl hb⟩

theorem over : Rows.spareFormsRow.holds Try.pinned (OpenSpec.ofChange Rows.spareFormsSpec) :=
  OpenClaim.holds_of_wide 3 Try.f3 rfl rfl rfl rfl rfl rfl rfl ⟨rfl, rfl, rfl, rfl, rfl⟩ rfl rfl rfl rfl rfl (by kernel_rfl) Try.func3 (by kernel_rfl)
    (of_decide_eq_true (by kernel_rfl)) (by unfold Func.isWrapper; first | (rw [if_pos (by decide +kernel)]; kernel_rfl) | (rw [if_neg (by decide +kernel)]; exact ⟨rfl, rfl⟩))
    (fun os started H enc _ => lifted os started H enc)

theorem proved : Rows.SpareFormsSaid := over
end Go.Proofs.Ytjfedklpmbnjcaa.spareForms
