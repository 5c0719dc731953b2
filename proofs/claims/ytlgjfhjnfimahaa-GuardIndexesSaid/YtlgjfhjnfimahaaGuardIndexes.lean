/-
  A place of the row is read; one that there is not ends it; the row is as it was. No conditions.
-/
import Derived.Test.YtlgjfhjnfimahaaAwg
namespace Go.Proofs.Ytlgjfhjnfimahaa.guardIndexes
open Go.Proofs.Ytlgjfhjnfimahaa Go.ChangeShapes Go.WideShapes Go.ChangeAt Go.RowKit

theorem run_in {row : List Int} {i : Int} (h0 : 0 ≤ i) (h1 : i < row.length) : run row [] 0 [(1, i), (4, 0)] = ([row.getD i.toNat 0], 2, true) := by
  simp [run, stp, h0, h1]
theorem run_out {row : List Int} {i : Int} (h : ¬ (0 ≤ i ∧ i < row.length)) : run row [] 0 [(1, i), (4, 0)] = ([i], 1, false) := by
  simp [run, stp, h]

theorem steps_at (w : World) (rv : Value) (row : List Int) (i : Int) (hr : RI w rv row) : Calls Try.prog 13 #[rv, .slice (some ⟨w.heap.size, 0, none⟩) 2 2]
    (w.alloc (.cells #[.int .i64 1, .int .i64 i, .int .i64 4, .int .i64 0] 37)) fun e w' =>
      ∃ v, e = .returned (.tuple #[v, .int .i64 ((run row [] 0 [(1, i), (4, 0)]).2.1 : Nat), .bool (run row [] 0 [(1, i), (4, 0)]).2.2]) ∧ OwnI w.heap.size w' v (run row [] 0 [(1, i), (4, 0)]).1.reverse ∧ Below w.heap.size w w' := by
  have h2 := rl_lit w [(1, i), (4, 0)] (by simp)
  refine (run_walk _ _ row [(1, i), (4, 0)] _ (ri_below hr (bal (Below.refl _ _))) h2 (by simp)).mono ?_
  rintro e w1 ⟨v, rfl, ho, hb⟩
  exact ⟨v, rfl, ho.mono (by simp), below_more (bal (Below.refl _ _)) hb⟩

theorem long (p : Option Addr) (n cap : Nat) (i : Int) (w : World) (h : 200 < n) :
    Calls Try.prog 7 #[.slice p n cap, .int .i64 i] w fun e w' => e = .returned (.bool true) ∧ Below w.heap.size w w' := by
  go_enter Try.func7, Try.ntmps7
  go_wp2_with fail
  refine (awake_any _).mono ?_; rintro e w' ⟨rfl, hb⟩
  go_wp2_with fail
  go_ret
  exact ⟨rfl, hb⟩

set_option maxHeartbeats 2000000 in
theorem in_ (p : Option Addr) (cap : Nat) (l : List Int) (i : Int) (w : World) (hr : RI w (.slice p l.length cap) l) (h : l.length ≤ 200) (h0 : 0 ≤ i) (h1 : i < l.length) :
    Calls Try.prog 7 #[.slice p l.length cap, .int .i64 i] w fun e w' => e = .returned (.bool true) ∧ Below w.heap.size w w' := by
  have R := Lib.hid hr
  have C0 := steps_at w _ l i hr
  rw [run_in h0 h1] at C0
  have C := Lib.hid C0
  have D := Lib.hid fun w' (hb : Below w.heap.size w w') => index_in _ l i w' (ri_below hr hb) h0 h1
  obtain ⟨k, rfl⟩ : ∃ k : Nat, i = k := ⟨i.toNat, by omega⟩
  have hk : k < l.length := by omega
  obtain ⟨b, off, rfl, hbl, hc⟩ := ri_some hr (by omega)
  have hcell := hc k hk
  rw [Int.toNat_natCast] at C D
  generalize l.getD k 0 = y at *
  clear hr hc C0
  go_enter Try.func7, Try.ntmps7
  go_wp2_with fail
  refine C.out.mono ?_; rintro e w1 ⟨v, rfl, ho, hb⟩
  obtain ⟨g, c, rfl, _, hg, _⟩ := ho.block (by simp)
  obtain ⟨c0, _⟩ := ho.cells (j := 0) (by simp)
  have c0' : w1.cell? ⟨g, 0, none⟩ = some (.int .i64 y) := c0
  have HB := Lib.hid hb
  clear ho hb c0
  go_wp2_with fail
  refine (D.out w1 HB.out).mono ?_; rintro e w2 ⟨rfl, hb⟩
  have c1 : w2.cell? ⟨g, 0, none⟩ = some (.int .i64 y) := (hb.cell hg).trans c0'
  have HB2 := Lib.hid (below_more HB.out hb)
  have hcell2 : w2.cell? ⟨b, off + k, none⟩ = some (.int .i64 y) := (HB2.out.cell hbl).trans hcell
  clear hb c0' HB hg
  go_wp2_with fail
  refine (awake_any _).mono ?_; rintro e w3 ⟨rfl, hb⟩
  go_wp2_with fail
  go_ret
  exact ⟨rfl, below_more HB2.out hb⟩

set_option maxHeartbeats 2000000 in
theorem out_ (p : Option Addr) (cap : Nat) (l : List Int) (i : Int) (w : World) (hr : RI w (.slice p l.length cap) l) (h : l.length ≤ 200) (ho : ¬ (0 ≤ i ∧ i < l.length)) :
    Calls Try.prog 7 #[.slice p l.length cap, .int .i64 i] w fun e w' => e = .returned (.bool true) ∧ Below w.heap.size w w' := by
  have C0 := steps_at w _ l i hr
  rw [run_out ho] at C0
  have C := Lib.hid C0
  have D := Lib.hid fun w' (hb : Below w.heap.size w w') => index_out _ l i w' (ri_below hr hb) (by omega)
  clear hr ho C0
  go_enter Try.func7, Try.ntmps7
  go_wp2_with fail
  refine C.out.mono ?_; rintro e w1 ⟨v, rfl, ho, hb⟩
  obtain ⟨g, c, rfl, _, hg, _⟩ := ho.block (by simp)
  obtain ⟨c0, _⟩ := ho.cells (j := 0) (by simp)
  have c0' : w1.cell? ⟨g, 0, none⟩ = some (.int .i64 i) := c0
  have HB := Lib.hid hb
  clear ho hb c0
  go_wp2_with fail
  refine (D.out w1 HB.out).mono ?_; rintro e w2 ⟨rfl, hb⟩
  have c1 : w2.cell? ⟨g, 0, none⟩ = some (.int .i64 i) := (hb.cell hg).trans c0'
  have HB2 := Lib.hid (below_more HB.out hb)
  clear hb c0' HB hg
  go_wp2_with fail
  refine (awake_any _).mono ?_; rintro e w3 ⟨rfl, hb⟩
  go_wp2_with fail
  go_ret
  exact ⟨rfl, below_more HB2.out hb⟩

theorem walk (l0 : List Int) (v0 : Value) (a1 : Int) (w : World) (w0 : IntsIn .i64 w v0 l0) (_ : (Lit.int .i64 a1).wf = true) :
    Calls Try.prog 7 #[v0, .int .i64 a1] w fun e w' => e = .returned (.bool true) ∧ Below w.heap.size w w' := by
  have hr := ri_in w0
  obtain ⟨p, cap, rfl, _⟩ := w0
  by_cases h : l0.length ≤ 200
  · by_cases hi : 0 ≤ a1 ∧ a1 < l0.length
    · exact in_ p cap l0 a1 w hr h hi.1 hi.2
    · exact out_ p cap l0 a1 w hr h hi
  · exact long p _ cap a1 w (by omega)

set_option maxRecDepth 100000 in
theorem lifted (os : Os) (started : os.Started) (H : Type) (enc : TypeId × Value → H) :
    ReturnsInHanded {} Try.checked os 7 .any (Rows.guardIndexesSpec.pre6 enc Try.prog Try.f7 Rows.guardIndexesRow.domain false) (Rows.guardIndexesSpec.post enc Try.prog Try.f7 false true false false) := by
  refine returnsInHanded_of_change (C := Try.checked) own started (by kernel_rfl) Try.func7
    (ChangeSpec.witness6 (enc := enc) (C := Try.checked) false ⟨#[], #[.slice none 0 0, .int .i64 0], []⟩ 8 (by kernel_rfl) (by kernel_rfl) (by kernel_rfl) (by kernel_rfl)) ?_
  intro W base args ds gs before hval0 hW hcnd _
  have hval : ∀ (j : Nat) t v, Try.f7.params[j]? = some t → args[j]? = some v → Value.okWide Try.prog W .any base t v := hval0
  have hW' := hW
  have hlt := hW.lt
  obtain ⟨p, q, hA0, hV, hpq, hfz, hnd⟩ := hW
  have hA : DataW.TrodAll enc Try.prog W 0 (fun _ => true) true Try.f7.params.toList args.toList ds p := hA0
  rw [Try.params7] at hA hval
  obtain ⟨v0, vs0, d0, ds0, p0, q0, hargs, rfl, hp, h0, r0⟩ := trodAll_cons hA
  obtain ⟨v1, vs1, d1, ds1, p1, q1, rfl, rfl, rfl, h1, r1⟩ := trodAll_cons r0
  obtain ⟨rfl, rfl, rfl⟩ := trodAll_nil r1
  obtain rfl : args = #[v0, v1] := by cases args; simp_all
  obtain ⟨rfl, rfl⟩ := trodVars_none hV
  have hlt' : ∀ x ∈ before, x.block < W.heap.size := fun x hx => hlt x hx
  obtain ⟨l0, w0⟩ := ints_in Try.underlying22 Try.underlying3 (by kernel_rfl) (hval 0 22 v0 rfl rfl) (fun x hx => hlt' x (by rw [hpq, hp]; simp [hx])) h0
  obtain ⟨a1, rfl, rfl, rfl, w1⟩ := open_int Try.underlying3 (hval 1 3 v1 rfl rfl) h1
  refine (walk l0 v0 a1 W w0 w1).mono fun e W' ⟨he, hb⟩ => ?_
  subst he
  exact ⟨_, rfl, law_post rfl (by kernel_rfl) hW' (by rw [Try.params7]; intro t ht; simp only [List.mem_cons, List.not_mem_nil, or_false] at ht; (repeat' (first | (rcases ht with rfl | ht) | subst ht)) <;> exact ⟨by kernel_rfl, of_decide_eq_true (by kernel_rfl)⟩) rfl hb⟩

theorem over : Rows.guardIndexesRow.holds Try.pinned (OpenSpec.ofChange Rows.guardIndexesSpec) :=
  OpenClaim.holds_of_wide 7 Try.f7 rfl rfl rfl rfl rfl rfl rfl ⟨rfl, rfl, rfl, rfl, rfl⟩ rfl rfl rfl rfl rfl (by kernel_rfl) Try.func7 (by kernel_rfl)
    (of_decide_eq_true (by kernel_rfl)) (by unfold Func.isWrapper; first | (rw [if_pos (by decide +kernel)]; kernel_rfl) | (rw [if_neg (by decide +kernel)]; exact ⟨rfl, rfl⟩))
    (fun os started H enc _ => lifted os started H enc)

theorem proved : Rows.GuardIndexesSaid := over
end Go.Proofs.Ytlgjfhjnfimahaa.guardIndexes
