/-
  Package mean answers as the document's reference does, whatever the counts are. No conditions.
-/
import Derived.Test.YtaghncdeojdghaaParts
namespace Go.Proofs.Ytaghncdeojdghaa.meanForms
open Go.Proofs.Ytaghncdeojdghaa Go.Proofs.Ytaghncdeojdghaa.D Go.ChangeShapes Go.WideShapes Go.ChangeAt Go.RowKit

theorem same_self (x : Nat) (w : World) : Calls Try.prog 10 #[.float .f64 x, .float .f64 x] w fun e w' => e = .returned (.bool true) ∧ w = w' := by
  refine (same_all x x w).mono fun e w' ⟨h, g⟩ => ⟨?_, g⟩
  rw [h]
  refine ret_bool ?_
  unfold cmp3; rw [if_neg (by omega), if_neg (by omega)]; rfl
theorem rmean_is {l : List Int} {x : Nat} (hx : ofV (held l) = x) (v : Value) (w : World) (h : RI w v l) :
    Calls Try.prog 12 #[v] w fun e w' => e = .returned (.float .f64 x) ∧ w = w' := by rw [← hx]; exact rmean_any v l w h
theorem rvar_is {l : List Int} {x : Nat} (hx : varV (held l) = x) (v : Value) (w : World) (h : RI w v l) :
    Calls Try.prog 14 #[v] w fun e w' => e = .returned (.float .f64 x) ∧ w = w' := by rw [← hx]; exact rvar_any v l w h
theorem runev_is {l : List Int} {x : Nat} (hx : unV (held l) = x) (hm : l.length ≤ maxLen) (v : Value) (w : World) (h : RI w v l) :
    Calls Try.prog 18 #[v] w fun e w' => e = .returned (.float .f64 x) ∧ w = w' := by rw [← hx]; exact runev_any v l w h hm
theorem rrat_is {a b : Int} {x : Nat} (hx : ratV (hn a) (hn b) = x) (w : World) :
    Calls Try.prog 16 #[.int .i64 a, .int .i64 b] w fun e w' => e = .returned (.float .f64 x) ∧ w = w' := by rw [← hx]; exact rrat_any a b w

theorem long (a b : Int) (p : Option Addr) (n cap : Nat) (w : World) (h : 300 < n) :
    Calls Try.prog 3 #[.slice p n cap, .int .i64 a, .int .i64 b] w fun e w' => e = .returned (.bool true) ∧ Below w.heap.size w w' := by
  go_enter Try.func3, Try.ntmps3
  go_wp2_with fail
  refine (awake_any _).mono ?_; rintro e w' ⟨rfl, hb⟩
  go_wp2_with fail
  go_ret
  exact ⟨rfl, hb⟩

set_option maxHeartbeats 2000000 in
theorem short (a b : Int) (l : List Int) (p : Option Addr) (cap : Nat) (w : World) (hr : RI w (.slice p l.length cap) l) (hl : l.length ≤ 300) :
    Calls Try.prog 3 #[.slice p l.length cap, .int .i64 a, .int .i64 b] w fun e w' => e = .returned (.bool true) ∧ Below w.heap.size w w' := by
  have hm : l.length ≤ maxLen := by unfold maxLen; omega
  obtain ⟨x, hx⟩ : ∃ x, ofV (held l) = x := ⟨_, rfl⟩
  obtain ⟨y, hy⟩ : ∃ y, varV (held l) = y := ⟨_, rfl⟩
  obtain ⟨z, hz⟩ : ∃ z, unV (held l) = z := ⟨_, rfl⟩
  obtain ⟨q, hq⟩ : ∃ q, ratV (hn a) (hn b) = q := ⟨_, rfl⟩
  have C1 := Lib.hid (of_is hx hm)
  have C2 := Lib.hid (rmean_is hx)
  have C3 := Lib.hid (var_is hy hm)
  have C4 := Lib.hid (rvar_is hy)
  have C5 := Lib.hid (rat_is hq)
  have C6 := Lib.hid (rrat_is hq)
  have C7 := Lib.hid (un_is hz hm)
  have C8 := Lib.hid (runev_is hz hm)
  have R := Lib.hid hr
  clear hx hy hz hq hr
  go_enter Try.func3, Try.ntmps3
  go_wp2_with fail
  refine (C1.out _ _ R.out).mono ?_; rintro e w1 ⟨rfl, h1⟩
  have B1 := Lib.hid (below_drew h1)
  have R1 := Lib.hid (ri_next R.out h1)
  clear h1 R
  go_wp2_with fail
  refine (C2.out _ _ R1.out).mono ?_; rintro e w' ⟨rfl, rfl⟩
  go_wp2_with fail
  refine (same_self _ _).mono ?_; rintro e w' ⟨rfl, rfl⟩
  go_wp2_with fail
  refine (C3.out _ _ R1.out).mono ?_; rintro e w2 ⟨rfl, h2⟩
  have B2 := Lib.hid (below_next B1.out h2)
  have R2 := Lib.hid (ri_next R1.out h2)
  clear h2 R1 B1
  go_wp2_with fail
  refine (C4.out _ _ R2.out).mono ?_; rintro e w' ⟨rfl, rfl⟩
  go_wp2_with fail
  refine (same_self _ _).mono ?_; rintro e w' ⟨rfl, rfl⟩
  go_wp2_with fail
  refine (C5.out _).mono ?_; rintro e w3 ⟨rfl, h3⟩
  have B3 := Lib.hid (below_next B2.out h3)
  have R3 := Lib.hid (ri_next R2.out h3)
  clear h3 R2 B2
  go_wp2_with fail
  refine (C6.out _).mono ?_; rintro e w' ⟨rfl, rfl⟩
  go_wp2_with fail
  refine (same_self _ _).mono ?_; rintro e w' ⟨rfl, rfl⟩
  go_wp2_with fail
  refine (C7.out _ _ R3.out).mono ?_; rintro e w4 ⟨rfl, h4⟩
  have B4 := Lib.hid (below_next B3.out h4)
  have R4 := Lib.hid (ri_next R3.out h4)
  clear h4 R3 B3
  go_wp2_with fail
  refine (C8.out _ _ R4.out).mono ?_; rintro e w' ⟨rfl, rfl⟩
  go_wp2_with fail
  refine (same_self _ _).mono ?_; rintro e w' ⟨rfl, rfl⟩
  go_wp2_with fail
  refine (awake_any _).mono ?_; rintro e w5 ⟨rfl, h5⟩
  go_wp2_with fail
  go_ret
  exact ⟨rfl, below_more B4.out h5⟩

theorem walk (l0 : List Int) (v0 : Value) (a1 a2 : Int) (w : World) (w0 : IntsIn .i64 w v0 l0) (_ : (Lit.int .i64 a1).wf = true) (_ : (Lit.int .i64 a2).wf = true) :
    Calls Try.prog 3 #[v0, .int .i64 a1, .int .i64 a2] w fun e w' => e = .returned (.bool true) ∧ Below w.heap.size w w' := by
  have hr := ri_in w0
  obtain ⟨p, cap, rfl, _⟩ := w0
  by_cases h : l0.length ≤ 300
  · exact short a1 a2 l0 p cap w hr h
  · exact long a1 a2 p _ cap w (by omega)

set_option maxRecDepth 100000 in
theorem lifted (os : Os) (started : os.Started) (H : Type) (enc : TypeId × Value → H) :
    ReturnsInHanded {} Try.checked os 3 .any (Rows.meanFormsSpec.pre6 enc Try.prog Try.f3 Rows.meanFormsRow.domain false) (Rows.meanFormsSpec.post enc Try.prog Try.f3 false true false false) := by
  refine returnsInHanded_of_change (C := Try.checked) own started (by kernel_rfl) Try.func3
    (ChangeSpec.witness6 (enc := enc) (C := Try.checked) false ⟨#[], #[.slice none 0 0, .int .i64 0, .int .i64 0], []⟩ 8 (by kernel_rfl) (by kernel_rfl) (by kernel_rfl) (by kernel_rfl)) ?_
  intro W base args ds gs before hval0 hW hcnd _
  have hval : ∀ (j : Nat) t v, Try.f3.params[j]? = some t → args[j]? = some v → Value.okWide Try.prog W .any base t v := hval0
  have hW' := hW
  have hlt := hW.lt
  obtain ⟨p, q, hA0, hV, hpq, hfz, hnd⟩ := hW
  have hA : DataW.TrodAll enc Try.prog W 0 (fun _ => true) true Try.f3.params.toList args.toList ds p := hA0
  rw [Try.params3] at hA hval
  obtain ⟨v0, vs0, d0, ds0, p0, q0, hargs, rfl, hp, h0, r0⟩ := trodAll_cons hA
  obtain ⟨v1, vs1, d1, ds1, p1, q1, rfl, rfl, rfl, h1, r1⟩ := trodAll_cons r0
  obtain ⟨v2, vs2, d2, ds2, p2, q2, rfl, rfl, rfl, h2, r2⟩ := trodAll_cons r1
  obtain ⟨rfl, rfl, rfl⟩ := trodAll_nil r2
  obtain rfl : args = #[v0, v1, v2] := by cases args; simp_all
  obtain ⟨rfl, rfl⟩ := trodVars_none hV
  have hlt' : ∀ x ∈ before, x.block < W.heap.size := fun x hx => hlt x hx
  obtain ⟨l0, w0⟩ := ints_in Try.underlying22 Try.underlying3 (by kernel_rfl) (hval 0 22 v0 rfl rfl) (fun x hx => hlt' x (by rw [hpq, hp]; simp [hx])) h0
  obtain ⟨a1, rfl, rfl, rfl, w1⟩ := open_int Try.underlying3 (hval 1 3 v1 rfl rfl) h1
  obtain ⟨a2, rfl, rfl, rfl, w2⟩ := open_int Try.underlying3 (hval 2 3 v2 rfl rfl) h2
  refine (walk l0 v0 a1 a2 W w0 w1 w2).mono fun e W' ⟨he, hb⟩ => ?_
  subst he
  exact ⟨_, rfl, law_post rfl (by kernel_rfl) hW' (by rw [Try.params3]; intro t ht; simp only [List.mem_cons, List.not_mem_nil, or_false] at ht; (repeat' (first | (rcases ht with rfl | ht) | subst ht)) <;> exact ⟨by kernel_rfl, of_decide_eq_true (by kernel_rfl)⟩) rfl hb⟩

theorem over : Rows.meanFormsRow.holds Try.pinned (OpenSpec.ofChange Rows.meanFormsSpec) :=
  OpenClaim.holds_of_wide 3 Try.f3 rfl rfl rfl rfl rfl rfl rfl ⟨rfl, rfl, rfl, rfl, rfl⟩ rfl rfl rfl rfl rfl (by kernel_rfl) Try.func3 (by kernel_rfl)
    (of_decide_eq_true (by kernel_rfl)) (by unfold Func.isWrapper; first | (rw [if_pos (by decide +kernel)]; kernel_rfl) | (rw [if_neg (by decide +kernel)]; exact ⟨rfl, rfl⟩))
    (fun os started H enc _ => lifted os started H enc)

theorem proved : Rows.MeanFormsSaid := over
end Go.Proofs.Ytaghncdeojdghaa.meanForms
