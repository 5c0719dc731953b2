/-
  Of any numbers the program tells the gap, a line's slot, a slot's line and the next move as the reference does. No conditions.
-/
import Derived.Test.YtmodoploohnbcaaGpc
namespace Go.Proofs.Ytmodoploohnbcaa.gapForms
open Go.Proofs.Ytmodoploohnbcaa Go.ChangeShapes Go.WideShapes Go.ChangeAt Go.RowKit

/-- what a function of lines and moves tells, and the reference's of the same, is one -/
def One (f g : FuncId) (args : Array Value) : Prop := ∃ x : Int, (∀ w, Calls Try.prog f args w fun e w' => e = .returned (.int .i64 x) ∧ w = w') ∧ ∀ w, Calls Try.prog g args w fun e w' => e = .returned (.int .i64 x) ∧ w = w'
def Two (f g : FuncId) (args : Array Value) : Prop := ∃ x y : Int, (∀ w, Calls Try.prog f args w fun e w' => e = .returned (.tuple #[.int .i64 x, .int .i64 y]) ∧ w = w') ∧ ∀ w, Calls Try.prog g args w fun e w' => e = .returned (.tuple #[.int .i64 x, .int .i64 y]) ∧ w = w'

theorem may_or (n m : Int) (hm : (Lit.int .i64 m).wf = true) : (n < 1 ∨ 100000 < n ∨ m < 0) ∨ ∃ N M : Nat, n = N ∧ m = M ∧ 1 ≤ N ∧ N ≤ 100000 ∧ M < 9223372036854775808 := by
  have := i64_wf hm
  by_cases h : n < 1 ∨ 100000 < n ∨ m < 0
  · exact .inl h
  · exact .inr ⟨n.toNat, m.toNat, by omega, by omega, by omega, by omega, by omega⟩

theorem gap_one (n m : Int) (hm : (Lit.int .i64 m).wf = true) : One 10 11 #[.int .i64 n, .int .i64 m] := by
  rcases may_or n m hm with h | ⟨N, M, rfl, rfl, h1, h2, h3⟩
  · exact ⟨_, fun w => gap_no n m w h, fun w => rgap_no n m w h⟩
  · exact ⟨_, fun w => gap_yes N M w h1 h2, fun w => rgap_yes N M w h1 h2⟩
theorem move_two (n m : Int) (hm : (Lit.int .i64 m).wf = true) : Two 8 9 #[.int .i64 n, .int .i64 m] := by
  rcases may_or n m hm with h | ⟨N, M, rfl, rfl, h1, h2, h3⟩
  · exact ⟨_, _, fun w => move_no n m w h, fun w => rmove_no n m w h⟩
  · exact ⟨_, _, fun w => move_yes N M w h1 h2, fun w => rmove_yes N M w h1 h2⟩
theorem slot_one (n m l : Int) (hm : (Lit.int .i64 m).wf = true) : One 12 13 #[.int .i64 n, .int .i64 m, .int .i64 l] := by
  rcases may_or n m hm with h | ⟨N, M, rfl, rfl, h1, h2, h3⟩
  · exact ⟨_, fun w => slot_no n m l w h, fun w => rslot_no n m l w h⟩
  · by_cases c : l < 0 ∨ (N : Int) ≤ l
    · exact ⟨_, fun w => slot_out N M l w h1 h2 c, fun w => rslot_out N M l w h1 h2 c⟩
    · obtain ⟨L, rfl⟩ : ∃ L : Nat, l = L := ⟨l.toNat, by omega⟩
      exact ⟨_, fun w => slot_yes N M L w h2 h3 (by omega), fun w => rslot_yes N M L w h2 h3 (by omega)⟩
theorem line_one (n m l : Int) (hm : (Lit.int .i64 m).wf = true) : One 14 15 #[.int .i64 n, .int .i64 m, .int .i64 l] := by
  rcases may_or n m hm with h | ⟨N, M, rfl, rfl, h1, h2, h3⟩
  · exact ⟨_, fun w => line_no n m l w h, fun w => rline_no n m l w h⟩
  · by_cases c : l < 0 ∨ (N : Int) < l
    · exact ⟨_, fun w => line_out N M l w h1 h2 c, fun w => rline_out N M l w h1 h2 c⟩
    · obtain ⟨L, rfl⟩ : ∃ L : Nat, l = L := ⟨l.toNat, by omega⟩
      by_cases g : L = gN N M
      · subst g
        exact ⟨_, fun w => line_gap N M w h1 h2, fun w => rline_gap N M w h1 h2⟩
      · exact ⟨_, fun w => line_yes N M L w h1 h2 h3 (by omega) g, fun w => rline_yes N M L w h1 h2 h3 (by omega) g⟩

set_option maxHeartbeats 1000000 in
theorem walk (a0 a1 a2 a3 : Int) (w : World) (_ : (Lit.int .i64 a0).wf = true) (w1 : (Lit.int .i64 a1).wf = true) (_ : (Lit.int .i64 a2).wf = true) (_ : (Lit.int .i64 a3).wf = true) :
    Calls Try.prog 3 #[.int .i64 a0, .int .i64 a1, .int .i64 a2, .int .i64 a3] w fun e w' => e = .returned (.bool true) ∧ Below w.heap.size w w' := by
  obtain ⟨x, y, m1, m2⟩ := move_two a0 a1 w1
  obtain ⟨g, g1, g2⟩ := gap_one a0 a1 w1
  obtain ⟨s, s1, s2⟩ := slot_one a0 a1 a2 w1
  obtain ⟨l, l1, l2⟩ := line_one a0 a1 a3 w1
  have M1 := Lib.hid m1; have M2 := Lib.hid m2; have G1 := Lib.hid g1; have G2 := Lib.hid g2
  have S1 := Lib.hid s1; have S2 := Lib.hid s2; have L1 := Lib.hid l1; have L2 := Lib.hid l2
  clear m1 m2 g1 g2 s1 s2 l1 l2 w1
  go_enter Try.func3, Try.ntmps3
  go_wp2_with fail
  refine (M1.out _).mono ?_; rintro e w' ⟨rfl, rfl⟩
  go_wp2_with fail
  refine (M2.out _).mono ?_; rintro e w' ⟨rfl, rfl⟩
  go_wp2_with fail
  refine (G1.out _).mono ?_; rintro e w' ⟨rfl, rfl⟩
  go_wp2_with fail
  refine (G2.out _).mono ?_; rintro e w' ⟨rfl, rfl⟩
  go_wp2_with fail
  refine (S1.out _).mono ?_; rintro e w' ⟨rfl, rfl⟩
  go_wp2_with fail
  refine (S2.out _).mono ?_; rintro e w' ⟨rfl, rfl⟩
  go_wp2_with fail
  refine (L1.out _).mono ?_; rintro e w' ⟨rfl, rfl⟩
  go_wp2_with fail
  refine (L2.out _).mono ?_; rintro e w' ⟨rfl, rfl⟩
  go_wp2_with fail
  refine (awake_any _).mono ?_; rintro e w' ⟨rfl, hb⟩
  go_wp2_with fail
  go_ret
  exact ⟨rfl, hb⟩

set_option maxRecDepth 100000 in
theorem lifted (os : Os) (started : os.Started) (H : Type) (enc : TypeId × Value → H) :
    ReturnsInHanded {} Try.checked os 3 .any (Rows.gapFormsSpec.pre6 enc Try.prog Try.f3 Rows.gapFormsRow.domain false) (Rows.gapFormsSpec.post enc Try.prog Try.f3 false true false false) := by
  refine returnsInHanded_of_change (C := Try.checked) own started (by kernel_rfl) Try.func3
    (ChangeSpec.witness6 (enc := enc) (C := Try.checked) false ⟨#[], #[.int .i64 0, .int .i64 0, .int .i64 0, .int .i64 0], []⟩ 8 (by kernel_rfl) (by kernel_rfl) (by kernel_rfl) (by kernel_rfl)) ?_
  intro W base args ds gs before hval0 hW hcnd _
  have hval : ∀ (j : Nat) t v, Try.f3.params[j]? = some t → args[j]? = some v → Value.okWide Try.prog W .any base t v := hval0
  have hW' := hW
  have hlt := hW.lt
  obtain ⟨p, q, hA0, hV, hpq, hfz, hnd⟩ := hW
  have hA : DataW.TrodAll enc Try.prog W 0 (fun _ => true) true Try.f3.params.toList args.toList ds p := hA0
  rw [Try.params3] at hA hval
  obtain ⟨v0, vs0, d0, ds0, p0, q0, hargs, rfl, hp, h0, r0⟩ := trodAll_cons hA
  obtain ⟨v1, vs1, d1, ds1, p1, q1, rfl, rfl, rfl, h1, r1⟩ := trodAll_cons r0
  obtain ⟨v2, vs2, d2, ds2, p2, q2, rfl, rfl, rfl, h2, r2⟩ := trodAll_cons r1
  obtain ⟨v3, vs3, d3, ds3, p3, q3, rfl, rfl, rfl, h3, r3⟩ := trodAll_cons r2
  obtain ⟨rfl, rfl, rfl⟩ := trodAll_nil r3
  obtain rfl : args = #[v0, v1, v2, v3] := by cases args; simp_all
  obtain ⟨rfl, rfl⟩ := trodVars_none hV
  have hlt' : ∀ x ∈ before, x.block < W.heap.size := fun x hx => hlt x hx
  obtain ⟨a0, rfl, rfl, rfl, w0⟩ := open_int Try.underlying3 (hval 0 3 v0 rfl rfl) h0
  obtain ⟨a1, rfl, rfl, rfl, w1⟩ := open_int Try.underlying3 (hval 1 3 v1 rfl rfl) h1
  obtain ⟨a2, rfl, rfl, rfl, w2⟩ := open_int Try.underlying3 (hval 2 3 v2 rfl rfl) h2
  obtain ⟨a3, rfl, rfl, rfl, w3⟩ := open_int Try.underlying3 (hval 3 3 v3 rfl rfl) h3
  refine (walk a0 a1 a2 a3 W w0 w1 w2 w3).mono fun e W' ⟨he, hb⟩ => ?_
  subst he
  exact ⟨_, rfl, law_post rfl (by kernel_rfl) hW' (by rw [Try.params3]; intro t ht; simp only [List.mem_cons, List.not_mem_nil, or_false] at ht; (repeat' (first | (rcases ht with rfl | ht) | subst ht)) <;> exact ⟨by kernel_rfl, of_decide_eq_true (by kernel_rfl)⟩) rfl hb⟩

theorem over : Rows.gapFormsRow.holds Try.pinned (OpenSpec.ofChange Rows.gapFormsSpec) :=
  OpenClaim.holds_of_wide 3 Try.f3 rfl rfl rfl rfl rfl rfl rfl ⟨rfl, rfl, rfl, rfl, rfl⟩ rfl rfl rfl rfl rfl (by kernel_rfl) Try.func3 (by kernel_rfl)
    (of_decide_eq_true (by kernel_rfl)) (by unfold Func.isWrapper; first | (rw [if_pos (by decide +kernel)]; kernel_rfl) | (rw [if_neg (by decide +kernel)]; exact ⟨rfl, rfl⟩))
    (fun os started H enc _ => lifted os started H enc)

theorem proved : Rows.GapFormsSaid := over
end Go.Proofs.Ytmodoploohnbcaa.gapForms
