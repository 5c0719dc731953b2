/-
  Lines side by side are in one page, or in the next; so many to each. No conditions.
-/
import Derived.Test.YtplehfdanlfjoaaCnw
namespace Go.Proofs.Ytplehfdanlfjoaa.countPages
open Go.Proofs.Ytplehfdanlfjoaa Go.ChangeShapes Go.WideShapes Go.ChangeAt Go.RowKit

theorem walk (a0 : Int) (w : World) (_ : (Lit.int .i64 a0).wf = true) :
    Calls Try.prog 6 #[.int .i64 a0] w fun e w' => e = .returned (.bool true) ∧ Below w.heap.size w w' := by
  obtain ⟨u, hu, _⟩ := u64_nat a0
  obtain ⟨l, hl⟩ : ∃ l, l = u % 100000 := ⟨_, rfl⟩
  have t1 : (u : Int).tmod 100000 = (l : Int) := by rw [hl]; exact tmod_nat u 100000
  have k0 : IntKind.i64.wrap (l : Int) = l := i64_nat _ (by omega)
  obtain ⟨p, hp⟩ : ∃ p, p = l / 4 := ⟨_, rfl⟩
  have C1 := page_is l (by omega) w
  have C2 := page_is (l + 4) (by omega) w
  rw [show (l + 4) / 4 = p + 1 by omega] at C2
  rw [← hp] at C1
  have k1 : IntKind.i64.wrap ((p : Int) * 4) = ((p * 4 : Nat) : Int) := by rw [show (p : Int) * 4 = ((p * 4 : Nat) : Int) by omega]; exact i64_nat _ (by omega)
  have k2 : IntKind.i64.wrap ((p : Int) + 1) = ((p + 1 : Nat) : Int) := by rw [show (p : Int) + 1 = ((p + 1 : Nat) : Int) by omega]; exact i64_nat _ (by omega)
  have k3 : IntKind.i64.wrap (((p + 1 : Nat) : Int) * 4) = (((p + 1) * 4 : Nat) : Int) := by rw [show ((p + 1 : Nat) : Int) * 4 = (((p + 1) * 4 : Nat) : Int) by omega]; exact i64_nat _ (by omega)
  have k4 : IntKind.i64.wrap ((l : Int) + 4) = ((l + 4 : Nat) : Int) := by rw [show (l : Int) + 4 = ((l + 4 : Nat) : Int) by omega]; exact i64_nat _ (by omega)
  obtain ⟨z, hz⟩ : ∃ z : Int, -1 - (l : Int) = z := ⟨_, rfl⟩
  have k5 : IntKind.i64.wrap (-1 - (l : Int)) = z := by rw [hz]; exact IntWalk.i64_in _ (by omega)
  have C3 := page_neg z (by omega) w
  have D1 := Lib.hid C1; have D2 := Lib.hid C2; have D3 := Lib.hid C3
  have i1 : ((p * 4 : Nat) : Int) ≤ (l : Int) := by omega
  have i2 : (l : Int) < (((p + 1) * 4 : Nat) : Int) := by omega
  have i3 : (p : Int) ≥ 0 := by omega
  clear C1 C2 C3 hl hp hz
  generalize hq : p * 4 = q at *
  generalize hr : (p + 1) * 4 = r at *
  generalize hs : l + 4 = s at *
  generalize ht : p + 1 = t at *
  go_enter Try.func6, Try.ntmps6
  go_wp2_with fail
  refine (D1.out).mono ?_; rintro e w' ⟨rfl, rfl⟩
  go_wp2_with fail
  refine (D2.out).mono ?_; rintro e w' ⟨rfl, rfl⟩
  go_wp2_with fail
  refine (D3.out).mono ?_; rintro e w' ⟨rfl, rfl⟩
  go_wp2_with fail
  refine (awake_any _).mono ?_; rintro e w' ⟨rfl, hb⟩
  go_wp2_with fail
  go_ret
  exact ⟨rfl, hb⟩

set_option maxRecDepth 100000 in
theorem lifted (os : Os) (started : os.Started) (H : Type) (enc : TypeId × Value → H) :
    ReturnsInHanded {} Try.checked os 6 .any (Rows.countPagesSpec.pre6 enc Try.prog Try.f6 Rows.countPagesRow.domain false) (Rows.countPagesSpec.post enc Try.prog Try.f6 false true false false) := by
  refine returnsInHanded_of_change (C := Try.checked) own started (by kernel_rfl) Try.func6
    (ChangeSpec.witness6 (enc := enc) (C := Try.checked) false ⟨#[], #[.int .i64 0], []⟩ 8 (by kernel_rfl) (by kernel_rfl) (by kernel_rfl) (by kernel_rfl)) ?_
  intro W base args ds gs before hval0 hW hcnd _
  have hval : ∀ (j : Nat) t v, Try.f6.params[j]? = some t → args[j]? = some v → Value.okWide Try.prog W .any base t v := hval0
  have hW' := hW
  have hlt := hW.lt
  obtain ⟨p, q, hA0, hV, hpq, hfz, hnd⟩ := hW
  have hA : DataW.TrodAll enc Try.prog W 0 (fun _ => true) true Try.f6.params.toList args.toList ds p := hA0
  rw [Try.params6] at hA hval
  obtain ⟨v0, vs0, d0, ds0, p0, q0, hargs, rfl, hp, h0, r0⟩ := trodAll_cons hA
  obtain ⟨rfl, rfl, rfl⟩ := trodAll_nil r0
  obtain rfl : args = #[v0] := by cases args; simp_all
  obtain ⟨rfl, rfl⟩ := trodVars_none hV
  have hlt' : ∀ x ∈ before, x.block < W.heap.size := fun x hx => hlt x hx
  obtain ⟨a0, rfl, rfl, rfl, w0⟩ := open_int Try.underlying3 (hval 0 3 v0 rfl rfl) h0
  refine (walk a0 W w0).mono fun e W' ⟨he, hb⟩ => ?_
  subst he
  exact ⟨_, rfl, law_post rfl (by kernel_rfl) hW' (by rw [Try.params6]; intro t ht; simp only [List.mem_cons, List.not_mem_nil, or_false] at ht; (repeat' (first | (rcases ht with rfl | ht) | subst ht)) <;> exact ⟨by kernel_rfl, of_decide_eq_true (by kernel_rfl)⟩) rfl hb⟩

theorem over : Rows.countPagesRow.holds Try.pinned (OpenSpec.ofChange Rows.countPagesSpec) :=
  OpenClaim.holds_of_wide 6 Try.f6 rfl rfl rfl rfl rfl rfl rfl ⟨rfl, rfl, rfl, rfl, rfl⟩ rfl rfl rfl rfl rfl (by kernel_rfl) Try.func6 (by kernel_rfl)
    (of_decide_eq_true (by kernel_rfl)) (by unfold Func.isWrapper; first | (rw [if_pos (by decide +kernel)]; kernel_rfl) | (rw [if_neg (by decide +kernel)]; exact ⟨rfl, rfl⟩))
    (fun os started H enc _ => lifted os started H enc)

theorem proved : Rows.CountPagesSaid := over
end Go.Proofs.Ytplehfdanlfjoaa.countPages
