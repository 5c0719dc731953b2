/-
  Of none there is no number; of noughts there is nothing uneven; by nought it is an infinity, or no number. No conditions.
-/
import Derived.Test.YtaghncdeojdghaaOwnI
namespace Go.Proofs.Ytaghncdeojdghaa.meanEdges
open Go.Proofs.Ytaghncdeojdghaa Go.Proofs.Ytaghncdeojdghaa.D Go.ChangeShapes Go.WideShapes Go.ChangeAt Go.RowKit



def zs (n : Nat) : List Int := List.replicate n 0
theorem zs_length (n : Nat) : (zs n).length = n := by simp [zs]
theorem held_zs (n : Nat) : held (zs n) = List.replicate n 0 := by simp [held, zs]; exact .inr rfl
theorem S_zs (n : Nat) : S (held (zs n)) = 0 := by rw [held_zs]; simp [S]
theorem spr_zs (n : Nat) : spr (held (zs n)) = 0 := by
  have : Sq (held (zs n)) = 0 := by rw [held_zs]; simp [Sq]
  unfold spr; rw [this, Nat.mul_zero, Nat.zero_sub]

theorem zs_ri (w : World) (n : Nat) : RI (w.alloc (.cells (madeCells #[.int .i64 0] n) 3)) (.slice (some ⟨w.heap.size, 0, none⟩) n n) (zs n) := by
  refine ⟨_, n, by rw [zs_length], .inr ⟨_, 0, rfl, fun i hi => ?_⟩⟩
  rw [zs_length] at hi
  rw [Nat.zero_add, World.cell?_alloc_at (hn := rfl), ← Array.getElem?_toList, toList_madeCells_one]
  simp [zs, hi]

theorem of_zs {n : Nat} (h : n = 0 ∨ 200 < n) : ofV (held (zs n)) = nanW ∧ varV (held (zs n)) = nanW := by
  unfold ofV varV
  rw [held_length, zs_length, if_pos h, if_pos h]; exact ⟨rfl, rfl⟩
theorem un_zs (n : Nat) : unV (held (zs n)) = nanW := by
  unfold unV; rw [if_pos (.inr (.inr (S_zs n)))]
theorem of_zs_some {n : Nat} (h : ¬ (n = 0 ∨ 200 < n)) : ofV (held (zs n)) = 0 ∧ varV (held (zs n)) = 0 := by
  unfold ofV varV
  rw [held_length, zs_length, if_neg h, if_neg h, S_zs, spr_zs, Q_zero, Q_zero]; exact ⟨rfl, rfl⟩

set_option maxHeartbeats 1000000 in
theorem none_case (a0 a1 : Int) (n u v : Nat) (w : World) (h : n = 0 ∨ 200 < n) (hu : IntKind.u64.wrap a0 = (u : Int)) (hn2 : n = u % 250) (hv : IntKind.u64.wrap a1 = (v : Int)) :
    Calls Try.prog 5 #[.int .i64 a0, .int .i64 a1] w fun e w' => e = .returned (.bool true) ∧ Below w.heap.size w w' := by
  have hn250 : n < 250 := by omega
  have t1 : (u : Int).tmod 250 = (n : Int) := by have h := tmod_nat u 250; rw [show ((250 : Nat) : Int) = 250 from rfl] at h; rw [hn2]; omega
  obtain ⟨r, hr⟩ : ∃ r, r = v % 1000000 := ⟨_, rfl⟩
  have t2 : (v : Int).tmod 1000000 = (r : Int) := by have h := tmod_nat v 1000000; rw [show ((1000000 : Nat) : Int) = 1000000 from rfl] at h; rw [hr]; omega
  have hr2 : r < 1000000 := by omega
  have hmk := run_make_row' (P := Try.prog) 22 3 (.int .i64 0) 8 Try.underlying22 info_int rfl .i64 .i64 n (by omega) (by omega)
  have Z := Lib.hid (zs_ri w n)
  have hm : (zs n).length ≤ maxLen := by rw [zs_length]; unfold maxLen; omega
  have C1 := Lib.hid (of_is (of_zs h).1 hm)
  have C2 := Lib.hid (var_is (of_zs h).2 hm)
  have C3 := Lib.hid (un_is (un_zs n) hm)
  have o1 : (FloatKind.f64.format.order nanW nanW != some .eq) = true := self_ne nanW
  have o2 : ((n : Int) == 0 || decide (200 < (n : Int))) = true := by
    rcases h with h | h
    · subst h; rfl
    · rw [decide_eq_true (by omega), Bool.or_true]
  clear hn2 hr h hm
  generalize nanW = x at *
  go_enter Try.func5, Try.ntmps5
  go_wp2_with fail
  refine (C1.out _ _ Z.out).mono ?_; rintro e w1 ⟨rfl, h1⟩
  have B1 := Lib.hid (below_alloc_drew (Below.refl _ _) h1)
  have Z1 := Lib.hid (ri_next Z.out h1)
  clear h1 Z
  go_wp2_with fail
  refine (C2.out _ _ Z1.out).mono ?_; rintro e w2 ⟨rfl, h2⟩
  have B2 := Lib.hid (below_next B1.out h2)
  have Z2 := Lib.hid (ri_next Z1.out h2)
  clear h2 Z1 B1
  go_wp2_with fail
  refine (C3.out _ _ Z2.out).mono ?_; rintro e w3 ⟨rfl, h3⟩
  have B3 := Lib.hid (below_next B2.out h3)
  clear h3 Z2 B2
  go_wp2_with fail
  all_goals
    refine (awake_any _).mono ?_; rintro e w4 ⟨rfl, h4⟩
    go_wp2_with fail
    go_ret
    exact ⟨rfl, below_more B3.out h4⟩

set_option maxHeartbeats 1000000 in
theorem some_case (a0 a1 : Int) (n u v : Nat) (w : World) (h : ¬ (n = 0 ∨ 200 < n)) (hu : IntKind.u64.wrap a0 = (u : Int)) (hn2 : n = u % 250) (hv : IntKind.u64.wrap a1 = (v : Int)) :
    Calls Try.prog 5 #[.int .i64 a0, .int .i64 a1] w fun e w' => e = .returned (.bool true) ∧ Below w.heap.size w w' := by
  have hn250 : n < 250 := by omega
  have t1 : (u : Int).tmod 250 = (n : Int) := by have h := tmod_nat u 250; rw [show ((250 : Nat) : Int) = 250 from rfl] at h; rw [hn2]; omega
  obtain ⟨r, hr⟩ : ∃ r, r = v % 1000000 + 1 := ⟨_, rfl⟩
  have t2 : (v : Int).tmod 1000000 = (r : Int) - 1 := by have h := tmod_nat v 1000000; rw [show ((1000000 : Nat) : Int) = 1000000 from rfl] at h; omega
  have t3 : (1 : Int) + ((r : Int) - 1) = (r : Int) := by omega
  have hr1 : 1 ≤ r := by omega
  have hr2 : r ≤ 1000000 := by omega
  have hmk := run_make_row' (P := Try.prog) 22 3 (.int .i64 0) 8 Try.underlying22 info_int rfl .i64 .i64 n (by omega) (by omega)
  have Z := Lib.hid (zs_ri w n)
  have hm : (zs n).length ≤ maxLen := by rw [zs_length]; unfold maxLen; omega
  have C1 := Lib.hid (of_is (of_zs_some h).1 hm)
  have C2 := Lib.hid (var_is (of_zs_some h).2 hm)
  have C3 := Lib.hid (un_is (un_zs n) hm)
  have C4 := Lib.hid (rat_is (a := 0) (b := 0) (x := nanW) rfl)
  have C5 := Lib.hid (rat_is (a := (r : Int)) (b := 0) (x := 9218868437227405312) (by unfold ratV; rw [show hn 0 = 0 from rfl, if_pos rfl, hn_small hr2, if_neg (by omega)]; rfl))
  have C6 := Lib.hid (rat_is (a := (r : Int)) (b := (r : Int)) (x := 4607182418800017408) (by
    unfold ratV; rw [hn_small hr2, if_neg (by omega)]; exact ((part_one (Nat.le_refl r) hr1 (by omega)).2.1).2 rfl))
  have C7 := Lib.hid (rat_is (a := 0) (b := (r : Int)) (x := 0) (by unfold ratV; rw [hn_small hr2, if_neg (by omega)]; exact Q_zero r))
  have o1 : (FloatKind.f64.format.order nanW nanW != some .eq) = true := self_ne nanW
  have o2 : (FloatKind.f64.format.order 0 0 == some .eq) = true := by decide +kernel
  have o3 : (FloatKind.f64.format.order 4607182418800017408 4607182418800017408 == some .eq) = true := by decide +kernel
  have i1 : ((n : Int) == 0) = false := beq_eq_false_iff_ne.2 (by omega)
  have i2 : ¬ (200 < (n : Int)) := by omega
  clear hn2 hr h hm
  generalize nanW = x at *
  go_enter Try.func5, Try.ntmps5
  go_wp2_with fail
  refine (C1.out _ _ Z.out).mono ?_; rintro e w1 ⟨rfl, h1⟩
  have B1 := Lib.hid (below_alloc_drew (Below.refl _ _) h1)
  have Z1 := Lib.hid (ri_next Z.out h1)
  clear h1 Z
  go_wp2_with fail
  refine (C2.out _ _ Z1.out).mono ?_; rintro e w2 ⟨rfl, h2⟩
  have B2 := Lib.hid (below_next B1.out h2)
  have Z2 := Lib.hid (ri_next Z1.out h2)
  clear h2 Z1 B1
  go_wp2_with fail
  refine (C3.out _ _ Z2.out).mono ?_; rintro e w3 ⟨rfl, h3⟩
  have B3 := Lib.hid (below_next B2.out h3)
  clear h3 Z2 B2
  go_wp2_with fail
  refine (C4.out _).mono ?_; rintro e w4 ⟨rfl, h4⟩
  have B4 := Lib.hid (below_next B3.out h4)
  clear h4 B3
  go_wp2_with fail
  refine (C5.out _).mono ?_; rintro e w5 ⟨rfl, h5⟩
  have B5 := Lib.hid (below_next B4.out h5)
  clear h5 B4
  go_wp2_with fail
  refine (isInf_pos _).mono ?_; rintro e w' ⟨rfl, rfl⟩
  go_wp2_with fail
  refine (C6.out _).mono ?_; rintro e w6 ⟨rfl, h6⟩
  have B6 := Lib.hid (below_next B5.out h6)
  clear h6 B5
  go_wp2_with fail
  refine (C7.out _).mono ?_; rintro e w7 ⟨rfl, h7⟩
  have B7 := Lib.hid (below_next B6.out h7)
  clear h7 B6
  go_wp2_with fail
  refine (awake_any _).mono ?_; rintro e w8 ⟨rfl, h8⟩
  go_wp2_with fail
  go_ret
  exact ⟨rfl, below_more B7.out h8⟩

theorem walk (a0 a1 : Int) (w : World) (_ : (Lit.int .i64 a0).wf = true) (_ : (Lit.int .i64 a1).wf = true) :
    Calls Try.prog 5 #[.int .i64 a0, .int .i64 a1] w fun e w' => e = .returned (.bool true) ∧ Below w.heap.size w w' := by
  obtain ⟨u, hu, _⟩ := u64_nat a0
  obtain ⟨v, hv, _⟩ := u64_nat a1
  by_cases h : u % 250 = 0 ∨ 200 < u % 250
  · exact none_case a0 a1 _ u v w h hu rfl hv
  · exact some_case a0 a1 _ u v w h hu rfl hv

set_option maxRecDepth 100000 in
theorem lifted (os : Os) (started : os.Started) (H : Type) (enc : TypeId × Value → H) :
    ReturnsInHanded {} Try.checked os 5 .any (Rows.meanEdgesSpec.pre6 enc Try.prog Try.f5 Rows.meanEdgesRow.domain false) (Rows.meanEdgesSpec.post enc Try.prog Try.f5 false true false false) := by
  refine returnsInHanded_of_change (C := Try.checked) own started (by kernel_rfl) Try.func5
    (ChangeSpec.witness6 (enc := enc) (C := Try.checked) false ⟨#[], #[.int .i64 0, .int .i64 0], []⟩ 8 (by kernel_rfl) (by kernel_rfl) (by kernel_rfl) (by kernel_rfl)) ?_
  intro W base args ds gs before hval0 hW hcnd _
  have hval : ∀ (j : Nat) t v, Try.f5.params[j]? = some t → args[j]? = some v → Value.okWide Try.prog W .any base t v := hval0
  have hW' := hW
  have hlt := hW.lt
  obtain ⟨p, q, hA0, hV, hpq, hfz, hnd⟩ := hW
  have hA : DataW.TrodAll enc Try.prog W 0 (fun _ => true) true Try.f5.params.toList args.toList ds p := hA0
  rw [Try.params5] at hA hval
  obtain ⟨v0, vs0, d0, ds0, p0, q0, hargs, rfl, hp, h0, r0⟩ := trodAll_cons hA
  obtain ⟨v1, vs1, d1, ds1, p1, q1, rfl, rfl, rfl, h1, r1⟩ := trodAll_cons r0
  obtain ⟨rfl, rfl, rfl⟩ := trodAll_nil r1
  obtain rfl : args = #[v0, v1] := by cases args; simp_all
  obtain ⟨rfl, rfl⟩ := trodVars_none hV
  have hlt' : ∀ x ∈ before, x.block < W.heap.size := fun x hx => hlt x hx
  obtain ⟨a0, rfl, rfl, rfl, w0⟩ := open_int Try.underlying3 (hval 0 3 v0 rfl rfl) h0
  obtain ⟨a1, rfl, rfl, rfl, w1⟩ := open_int Try.underlying3 (hval 1 3 v1 rfl rfl) h1
  refine (walk a0 a1 W w0 w1).mono fun e W' ⟨he, hb⟩ => ?_
  subst he
  exact ⟨_, rfl, law_post rfl (by kernel_rfl) hW' (by rw [Try.params5]; intro t ht; simp only [List.mem_cons, List.not_mem_nil, or_false] at ht; (repeat' (first | (rcases ht with rfl | ht) | subst ht)) <;> exact ⟨by kernel_rfl, of_decide_eq_true (by kernel_rfl)⟩) rfl hb⟩

theorem over : Rows.meanEdgesRow.holds Try.pinned (OpenSpec.ofChange Rows.meanEdgesSpec) :=
  OpenClaim.holds_of_wide 5 Try.f5 rfl rfl rfl rfl rfl rfl rfl ⟨rfl, rfl, rfl, rfl, rfl⟩ rfl rfl rfl rfl rfl (by kernel_rfl) Try.func5 (by kernel_rfl)
    (of_decide_eq_true (by kernel_rfl)) (by unfold Func.isWrapper; first | (rw [if_pos (by decide +kernel)]; kernel_rfl) | (rw [if_neg (by decide +kernel)]; exact ⟨rfl, rfl⟩))
    (fun os started H enc _ => lifted os started H enc)

theorem proved : Rows.MeanEdgesSaid := over
end Go.Proofs.Ytaghncdeojdghaa.meanEdges
