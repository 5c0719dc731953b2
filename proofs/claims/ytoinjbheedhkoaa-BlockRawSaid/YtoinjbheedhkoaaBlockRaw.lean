/-
  A word with its fortieth bit set is no header, nor is one below four: nothing is told of them. No conditions.
-/
import Derived.Test.YtoinjbheedhkoaaBlc
namespace Go.Proofs.Ytoinjbheedhkoaa.blockRaw
set_option maxRecDepth 100000
open Go.Proofs.Ytoinjbheedhkoaa Go.ChangeShapes Go.WideShapes Go.ChangeAt Go.RowKit

set_option maxHeartbeats 1000000 in
theorem walk (x : Int) (w : World) (wx : (Lit.int .u64 x).wf = true) :
    Calls Try.prog 6 #[.int .u64 x] w fun e w' => e = .returned (.bool true) ∧ Below w.heap.size w w' := by
  obtain ⟨x0, x1⟩ := u64_in wx
  obtain ⟨y, ey, y0, y1⟩ : ∃ y : Int, bits .or .u64 x 1099511627776 = y ∧ 1099511627776 ≤ y ∧ y ≤ 18446744073709551615 := by
    refine ⟨_, rfl, ?_⟩
    rw [u64_or _ _ (by omega) (by omega) (by omega) (by omega)]
    have h1 : (1099511627776 : Int).toNat ≤ x.toNat ||| (1099511627776 : Int).toNat := Nat.right_le_or
    have h2 : x.toNat ||| (1099511627776 : Int).toNat < 2 ^ 64 := Nat.or_lt_two_pow (by omega) (by decide)
    generalize x.toNat ||| (1099511627776 : Int).toNat = z at *
    omega
  obtain ⟨z, ez, z0, z1⟩ : ∃ z : Int, bits .and .u64 x 3 = z ∧ 0 ≤ z ∧ z ≤ 3 := by
    refine ⟨_, rfl, ?_⟩
    rw [u64_and _ _ (by omega) (by omega) (by omega) (by omega)]
    have h1 : x.toNat &&& (3 : Int).toNat ≤ (3 : Int).toNat := Nat.and_le_right
    generalize x.toNat &&& (3 : Int).toNat = z at *
    omega
  have P1 := Lib.hid fun w => parse_is y 0 false false (.inr ⟨rfl, rfl, rfl, by unfold MayB; omega⟩) (by omega) y1 w
  have P2 := Lib.hid fun w => parse_is z 0 false false (.inr ⟨rfl, rfl, rfl, by unfold MayB; omega⟩) z0 (by omega) w
  clear x0 x1 wx y0 y1 z0 z1
  go_enter Try.func6, Try.ntmps6
  go_wp2_with fail
  refine (P1.out _).mono ?_; rintro e w' ⟨rfl, rfl⟩
  go_wp2_with fail
  refine (P2.out _).mono ?_; rintro e w' ⟨rfl, rfl⟩
  go_wp2_with fail
  refine (awake_any _).mono ?_; rintro e w' ⟨rfl, hb⟩
  go_wp2_with fail
  go_ret
  exact ⟨rfl, hb⟩

set_option maxRecDepth 100000 in
theorem lifted (os : Os) (started : os.Started) (H : Type) (enc : TypeId × Value → H) :
    ReturnsInHanded {} Try.checked os 6 .any (Rows.blockRawSpec.pre6 enc Try.prog Try.f6 Rows.blockRawRow.domain false) (Rows.blockRawSpec.post enc Try.prog Try.f6 false true false false) := by
  refine returnsInHanded_of_change (C := Try.checked) own started (by kernel_rfl) Try.func6
    (ChangeSpec.witness6 (enc := enc) (C := Try.checked) false ⟨#[], #[.int .u64 0], []⟩ 8 (by kernel_rfl) (by kernel_rfl) (by kernel_rfl) (by kernel_rfl)) ?_
  intro W base args ds gs before hval0 hW hcnd _
  have hval : ∀ (j : Nat) t v, Try.f6.params[j]? = some t → args[j]? = some v → Value.okWide Try.prog W .any base t v := hval0
  have hW' := hW
  have hlt := hW.lt
  obtain ⟨p, q, hA0, hV, hpq, hfz, hnd⟩ := hW
  have hA : DataW.TrodAll enc Try.prog W 0 (fun _ => true) true Try.f6.params.toList args.toList ds p := hA0
  rw [Try.params6] at hA hval
  obtain ⟨v0, vs0, d0, ds0, p0, q0, hargs, rfl, hp, h0, r0⟩ := trodAll_cons hA
  obtain ⟨rfl, rfl, rfl⟩ := trodAll_nil r0
  obtain rfl : args = #[v0] := by cases args; simp_all
  obtain ⟨rfl, rfl⟩ := trodVars_none hV
  have hlt' : ∀ x ∈ before, x.block < W.heap.size := fun x hx => hlt x hx
  obtain ⟨a0, rfl, rfl, rfl, w0⟩ := open_int Try.underlying22 (hval 0 22 v0 rfl rfl) h0
  refine (walk a0 W w0).mono fun e W' ⟨he, hb⟩ => ?_
  subst he
  exact ⟨_, rfl, law_post rfl (by kernel_rfl) hW' (by rw [Try.params6]; intro t ht; simp only [List.mem_cons, List.not_mem_nil, or_false] at ht; (repeat' (first | (rcases ht with rfl | ht) | subst ht)) <;> exact ⟨by kernel_rfl, of_decide_eq_true (by kernel_rfl)⟩) rfl hb⟩

theorem over : Rows.blockRawRow.holds Try.pinned (OpenSpec.ofChange Rows.blockRawSpec) :=
  OpenClaim.holds_of_wide 6 Try.f6 rfl rfl rfl rfl rfl rfl rfl ⟨rfl, rfl, rfl, rfl, rfl⟩ rfl rfl rfl rfl rfl (by kernel_rfl) Try.func6 (by kernel_rfl)
    (of_decide_eq_true (by kernel_rfl)) (by unfold Func.isWrapper; first | (rw [if_pos (by decide +kernel)]; kernel_rfl) | (rw [if_neg (by decide +kernel)]; exact ⟨rfl, rfl⟩))
    (fun os started H enc _ => lifted os started H enc)

theorem proved : Rows.BlockRawSaid := over
end Go.Proofs.Ytoinjbheedhkoaa.blockRaw
