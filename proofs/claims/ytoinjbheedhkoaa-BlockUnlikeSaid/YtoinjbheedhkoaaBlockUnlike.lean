/-
  Two headers are the same just where their sizes are and their uses; none is nought; and of a size too small or too great there is none. No conditions.
-/
import Derived.Test.YtoinjbheedhkoaaBlc
namespace Go.Proofs.Ytoinjbheedhkoaa.blockUnlike
set_option maxRecDepth 100000
open Go.Proofs.Ytoinjbheedhkoaa Go.ChangeShapes Go.WideShapes Go.ChangeAt Go.RowKit

set_option maxHeartbeats 1000000 in
theorem walk (a b : Int) (u v : Bool) (w : World) (_ : (Lit.int .i64 a).wf = true) (_ : (Lit.int .i64 b).wf = true) :
    Calls Try.prog 5 #[.int .i64 a, .int .i64 b, .bool u, .bool v] w fun e w' => e = .returned (.bool true) ∧ Below w.heap.size w w' := by
  obtain ⟨k, ek, _⟩ := u64_nat a
  obtain ⟨n, hn⟩ : ∃ n : Nat, k % 511 = n := ⟨_, rfl⟩
  have hl : n < 511 := by omega
  have ht : (k : Int).tmod 511 = (n : Int) := by rw [← hn]; exact tmod_nat k 511
  have e1 : IntKind.i64.wrap (n : Int) = n := i64_nat n (by omega)
  have e2 : IntKind.i64.wrap (2 + (n : Int)) = 2 + n := IntWalk.i64_in _ (by omega)
  have hN : MayB (2 + (n : Int)) := ⟨by omega, by omega⟩
  obtain ⟨j, ej, _⟩ := u64_nat b
  obtain ⟨m, hm⟩ : ∃ m : Nat, j % 511 = m := ⟨_, rfl⟩
  have hk : m < 511 := by omega
  have hu : (j : Int).tmod 511 = (m : Int) := by rw [← hm]; exact tmod_nat j 511
  have e3 : IntKind.i64.wrap (m : Int) = m := i64_nat m (by omega)
  have e4 : IntKind.i64.wrap (2 + (m : Int)) = 2 + m := IntWalk.i64_in _ (by omega)
  have hM : MayB (2 + (m : Int)) := ⟨by omega, by omega⟩
  have W1 := Lib.hid fun w => wordb_yes (2 + (n : Int)) u hN w
  have W2 := Lib.hid fun w => wordb_yes (2 + (m : Int)) v hM w
  have W3 := Lib.hid fun w => wordb_no 1 u (by decide) w
  have W4 := Lib.hid fun w => wordb_no 513 v (by decide) w
  obtain ⟨h, hh⟩ : ∃ h, (2 + (n : Int)) * 2 + useB u = h := ⟨_, rfl⟩
  obtain ⟨g, hg⟩ : ∃ g, (2 + (m : Int)) * 2 + useB v = g := ⟨_, rfl⟩
  rw [hh] at W1
  rw [hg] at W2
  obtain ⟨p, hp⟩ : ∃ p, (h == g) = p := ⟨_, rfl⟩
  have h0 : ¬ h = 0 := by rcases useB_or u with ⟨_, e⟩ | ⟨_, e⟩ <;> omega
  have h2 : (h != 0) = true := by simpa using h0
  clear h0
  by_cases hnm : n = m
  · have q1 : (2 + (n : Int) == 2 + (m : Int)) = true := by simp [hnm]
    obtain ⟨r, hr⟩ : ∃ r, (u == v) = r := ⟨_, rfl⟩
    have hpr : (p == r) = true := by
      rw [← hp, ← hr]
      rcases useB_or u with ⟨eu, ku⟩ | ⟨eu, ku⟩ <;> rcases useB_or v with ⟨ev, kv⟩ | ⟨ev, kv⟩ <;> rw [eu, ev] <;> simp <;> omega
    clear hh hg hN hM hl hk hn hm hnm
    go_enter Try.func5, Try.ntmps5
    go_wp2_with fail
    refine (W1.out _).mono ?_; rintro e w' ⟨rfl, rfl⟩
    go_wp2_with fail
    refine (W2.out _).mono ?_; rintro e w' ⟨rfl, rfl⟩
    go_wp2_with fail
    refine (W3.out _).mono ?_; rintro e w' ⟨rfl, rfl⟩
    go_wp2_with fail
    refine (W4.out _).mono ?_; rintro e w' ⟨rfl, rfl⟩
    go_wp2_with fail
    refine (awake_any _).mono ?_; rintro e w' ⟨rfl, hb⟩
    go_wp2_with fail
    go_ret
    exact ⟨rfl, hb⟩
  · have q1 : (2 + (n : Int) == 2 + (m : Int)) = false := by simp; omega
    have hpr : p = false := by
      rw [← hp]
      rcases useB_or u with ⟨eu, ku⟩ | ⟨eu, ku⟩ <;> rcases useB_or v with ⟨ev, kv⟩ | ⟨ev, kv⟩ <;> simp <;> omega
    subst hpr
    clear hh hg hN hM hl hk hn hm hnm
    go_enter Try.func5, Try.ntmps5
    go_wp2_with fail
    refine (W1.out _).mono ?_; rintro e w' ⟨rfl, rfl⟩
    go_wp2_with fail
    refine (W2.out _).mono ?_; rintro e w' ⟨rfl, rfl⟩
    go_wp2_with fail
    refine (W3.out _).mono ?_; rintro e w' ⟨rfl, rfl⟩
    go_wp2_with fail
    refine (W4.out _).mono ?_; rintro e w' ⟨rfl, rfl⟩
    go_wp2_with fail
    refine (awake_any _).mono ?_; rintro e w' ⟨rfl, hb⟩
    go_wp2_with fail
    go_ret
    exact ⟨rfl, hb⟩

set_option maxRecDepth 100000 in
theorem lifted (os : Os) (started : os.Started) (H : Type) (enc : TypeId × Value → H) :
    ReturnsInHanded {} Try.checked os 5 .any (Rows.blockUnlikeSpec.pre6 enc Try.prog Try.f5 Rows.blockUnlikeRow.domain false) (Rows.blockUnlikeSpec.post enc Try.prog Try.f5 false true false false) := by
  refine returnsInHanded_of_change (C := Try.checked) own started (by kernel_rfl) Try.func5
    (ChangeSpec.witness6 (enc := enc) (C := Try.checked) false ⟨#[], #[.int .i64 0, .int .i64 0, .bool false, .bool false], []⟩ 8 (by kernel_rfl) (by kernel_rfl) (by kernel_rfl) (by kernel_rfl)) ?_
  intro W base args ds gs before hval0 hW hcnd _
  have hval : ∀ (j : Nat) t v, Try.f5.params[j]? = some t → args[j]? = some v → Value.okWide Try.prog W .any base t v := hval0
  have hW' := hW
  have hlt := hW.lt
  obtain ⟨p, q, hA0, hV, hpq, hfz, hnd⟩ := hW
  have hA : DataW.TrodAll enc Try.prog W 0 (fun _ => true) true Try.f5.params.toList args.toList ds p := hA0
  rw [Try.params5] at hA hval
  obtain ⟨v0, vs0, d0, ds0, p0, q0, hargs, rfl, hp, h0, r0⟩ := trodAll_cons hA
  obtain ⟨v1, vs1, d1, ds1, p1, q1, rfl, rfl, rfl, h1, r1⟩ := trodAll_cons r0
  obtain ⟨v2, vs2, d2, ds2, p2, q2, rfl, rfl, rfl, h2, r2⟩ := trodAll_cons r1
  obtain ⟨v3, vs3, d3, ds3, p3, q3, rfl, rfl, rfl, h3, r3⟩ := trodAll_cons r2
  obtain ⟨rfl, rfl, rfl⟩ := trodAll_nil r3
  obtain rfl : args = #[v0, v1, v2, v3] := by cases args; simp_all
  obtain ⟨rfl, rfl⟩ := trodVars_none hV
  have hlt' : ∀ x ∈ before, x.block < W.heap.size := fun x hx => hlt x hx
  obtain ⟨a0, rfl, rfl, rfl, w0⟩ := open_int Try.underlying3 (hval 0 3 v0 rfl rfl) h0
  obtain ⟨a1, rfl, rfl, rfl, w1⟩ := open_int Try.underlying3 (hval 1 3 v1 rfl rfl) h1
  obtain ⟨a2, rfl, rfl, rfl⟩ := open_bool Try.underlying4 (hval 2 4 v2 rfl rfl) h2
  obtain ⟨a3, rfl, rfl, rfl⟩ := open_bool Try.underlying4 (hval 3 4 v3 rfl rfl) h3
  refine (walk a0 a1 a2 a3 W w0 w1).mono fun e W' ⟨he, hb⟩ => ?_
  subst he
  exact ⟨_, rfl, law_post rfl (by kernel_rfl) hW' (by rw [Try.params5]; intro t ht; simp only [List.mem_cons, List.not_mem_nil, or_false] at ht; (repeat' (first | (rcases ht with rfl | ht) | subst ht)) <;> exact ⟨by kernel_rfl, of_decide_eq_true (by kernel_rfl)⟩) rfl hb⟩

theorem over : Rows.blockUnlikeRow.holds Try.pinned (OpenSpec.ofChange Rows.blockUnlikeSpec) :=
  OpenClaim.holds_of_wide 5 Try.f5 rfl rfl rfl rfl rfl rfl rfl ⟨rfl, rfl, rfl, rfl, rfl⟩ rfl rfl rfl rfl rfl (by kernel_rfl) Try.func5 (by kernel_rfl)
    (of_decide_eq_true (by kernel_rfl)) (by unfold Func.isWrapper; first | (rw [if_pos (by decide +kernel)]; kernel_rfl) | (rw [if_neg (by decide +kernel)]; exact ⟨rfl, rfl⟩))
    (fun os started H enc _ => lifted os started H enc)

theorem proved : Rows.BlockUnlikeSaid := over
end Go.Proofs.Ytoinjbheedhkoaa.blockUnlike
