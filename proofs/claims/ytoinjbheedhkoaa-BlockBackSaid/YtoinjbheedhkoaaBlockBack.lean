/-
  What is written of any size there may be, and any use, is read as it was; and any word that is read as a header is just what is written of what was read, and of another one no size and no use is told. No conditions.
-/
import Derived.Test.YtoinjbheedhkoaaBlc
namespace Go.Proofs.Ytoinjbheedhkoaa.blockBack
set_option maxRecDepth 100000
open Go.Proofs.Ytoinjbheedhkoaa Go.ChangeShapes Go.WideShapes Go.ChangeAt Go.RowKit

set_option maxHeartbeats 1000000 in
theorem walk (a : Int) (u : Bool) (x : Int) (w : World) (_ : (Lit.int .i64 a).wf = true) (wx : (Lit.int .u64 x).wf = true) :
    Calls Try.prog 4 #[.int .i64 a, .bool u, .int .u64 x] w fun e w' => e = .returned (.bool true) ∧ Below w.heap.size w w' := by
  obtain ⟨x0, x1⟩ := u64_in wx
  obtain ⟨s, v, c, hr⟩ := reads_some x
  obtain ⟨k, ek, _⟩ := u64_nat a
  obtain ⟨n, hn⟩ : ∃ n : Nat, k % 511 = n := ⟨_, rfl⟩
  have hl : n < 511 := by omega
  have ht : (k : Int).tmod 511 = (n : Int) := by rw [← hn]; exact tmod_nat k 511
  have e1 : IntKind.i64.wrap (n : Int) = n := i64_nat n (by omega)
  have e2 : IntKind.i64.wrap (2 + (n : Int)) = 2 + n := IntWalk.i64_in _ (by omega)
  have hN : MayB (2 + (n : Int)) := ⟨by omega, by omega⟩
  obtain ⟨h, hh⟩ : ∃ h, (2 + (n : Int)) * 2 + useB u = h := ⟨_, rfl⟩
  have hb : 0 ≤ h ∧ h ≤ 18446744073709551615 := by rcases useB_or u with ⟨_, e⟩ | ⟨_, e⟩ <;> omega
  have W1 := Lib.hid fun w => wordb_yes (2 + (n : Int)) u hN w
  rw [hh] at W1
  have P1 := Lib.hid fun w => parse_is h (2 + (n : Int)) u true (.inl ⟨rfl, hN, hh.symm⟩) hb.1 hb.2 w
  have P2 := Lib.hid fun w => parse_is x s v c hr x0 x1 w
  have u1 : (u == u) = true := by simp
  rcases hr with ⟨rfl, hs, e⟩ | ⟨rfl, rfl, rfl, _⟩
  · have W2 := Lib.hid fun w => wordb_yes s v hs w
    rw [← e] at W2
    clear hs e hh hb hN hl hn x0 x1 wx
    go_enter Try.func4, Try.ntmps4
    go_wp2_with fail
    refine (W1.out _).mono ?_; rintro e w' ⟨rfl, rfl⟩
    go_wp2_with fail
    refine (P1.out _).mono ?_; rintro e w' ⟨rfl, rfl⟩
    go_wp2_with fail
    refine (P2.out _).mono ?_; rintro e w' ⟨rfl, rfl⟩
    go_wp2_with fail
    refine (W2.out _).mono ?_; rintro e w' ⟨rfl, rfl⟩
    go_wp2_with fail
    refine (awake_any _).mono ?_; rintro e w' ⟨rfl, hb⟩
    go_wp2_with fail
    go_ret
    exact ⟨rfl, hb⟩
  · clear hh hb hN hl hn x0 x1 wx
    go_enter Try.func4, Try.ntmps4
    go_wp2_with fail
    refine (W1.out _).mono ?_; rintro e w' ⟨rfl, rfl⟩
    go_wp2_with fail
    refine (P1.out _).mono ?_; rintro e w' ⟨rfl, rfl⟩
    go_wp2_with fail
    refine (P2.out _).mono ?_; rintro e w' ⟨rfl, rfl⟩
    go_wp2_with fail
    refine (awake_any _).mono ?_; rintro e w' ⟨rfl, hb⟩
    go_wp2_with fail
    go_ret
    exact ⟨rfl, hb⟩

set_option maxRecDepth 100000 in
theorem lifted (os : Os) (started : os.Started) (H : Type) (enc : TypeId × Value → H) :
    ReturnsInHanded {} Try.checked os 4 .any (Rows.blockBackSpec.pre6 enc Try.prog Try.f4 Rows.blockBackRow.domain false) (Rows.blockBackSpec.post enc Try.prog Try.f4 false true false false) := by
  refine returnsInHanded_of_change (C := Try.checked) own started (by kernel_rfl) Try.func4
    (ChangeSpec.witness6 (enc := enc) (C := Try.checked) false ⟨#[], #[.int .i64 0, .bool false, .int .u64 0], []⟩ 8 (by kernel_rfl) (by kernel_rfl) (by kernel_rfl) (by kernel_rfl)) ?_
  intro W base args ds gs before hval0 hW hcnd _
  have hval : ∀ (j : Nat) t v, Try.f4.params[j]? = some t → args[j]? = some v → Value.okWide Try.prog W .any base t v := hval0
  have hW' := hW
  have hlt := hW.lt
  obtain ⟨p, q, hA0, hV, hpq, hfz, hnd⟩ := hW
  have hA : DataW.TrodAll enc Try.prog W 0 (fun _ => true) true Try.f4.params.toList args.toList ds p := hA0
  rw [Try.params4] at hA hval
  obtain ⟨v0, vs0, d0, ds0, p0, q0, hargs, rfl, hp, h0, r0⟩ := trodAll_cons hA
  obtain ⟨v1, vs1, d1, ds1, p1, q1, rfl, rfl, rfl, h1, r1⟩ := trodAll_cons r0
  obtain ⟨v2, vs2, d2, ds2, p2, q2, rfl, rfl, rfl, h2, r2⟩ := trodAll_cons r1
  obtain ⟨rfl, rfl, rfl⟩ := trodAll_nil r2
  obtain rfl : args = #[v0, v1, v2] := by cases args; simp_all
  obtain ⟨rfl, rfl⟩ := trodVars_none hV
  have hlt' : ∀ x ∈ before, x.block < W.heap.size := fun x hx => hlt x hx
  obtain ⟨a0, rfl, rfl, rfl, w0⟩ := open_int Try.underlying3 (hval 0 3 v0 rfl rfl) h0
  obtain ⟨a1, rfl, rfl, rfl⟩ := open_bool Try.underlying4 (hval 1 4 v1 rfl rfl) h1
  obtain ⟨a2, rfl, rfl, rfl, w2⟩ := open_int Try.underlying22 (hval 2 22 v2 rfl rfl) h2
  refine (walk a0 a1 a2 W w0 w2).mono fun e W' ⟨he, hb⟩ => ?_
  subst he
  exact ⟨_, rfl, law_post rfl (by kernel_rfl) hW' (by rw [Try.params4]; intro t ht; simp only [List.mem_cons, List.not_mem_nil, or_false] at ht; (repeat' (first | (rcases ht with rfl | ht) | subst ht)) <;> exact ⟨by kernel_rfl, of_decide_eq_true (by kernel_rfl)⟩) rfl hb⟩

theorem over : Rows.blockBackRow.holds Try.pinned (OpenSpec.ofChange Rows.blockBackSpec) :=
  OpenClaim.holds_of_wide 4 Try.f4 rfl rfl rfl rfl rfl rfl rfl ⟨rfl, rfl, rfl, rfl, rfl⟩ rfl rfl rfl rfl rfl (by kernel_rfl) Try.func4 (by kernel_rfl)
    (of_decide_eq_true (by kernel_rfl)) (by unfold Func.isWrapper; first | (rw [if_pos (by decide +kernel)]; kernel_rfl) | (rw [if_neg (by decide +kernel)]; exact ⟨rfl, rfl⟩))
    (fun os started H enc _ => lifted os started H enc)

theorem proved : Rows.BlockBackSaid := over
end Go.Proofs.Ytoinjbheedhkoaa.blockBack
