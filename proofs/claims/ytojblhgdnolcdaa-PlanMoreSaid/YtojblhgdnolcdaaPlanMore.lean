/-
  A line more of the heap is a line more of all; a spare one more is one of the device alone. No conditions.
-/
import Derived.Test.YtojblhgdnolcdaaPls
namespace Go.Proofs.Ytojblhgdnolcdaa.planMore
open Go.Proofs.Ytojblhgdnolcdaa Go.ChangeShapes Go.WideShapes Go.ChangeAt Go.RowKit

set_option maxRecDepth 100000 in
set_option maxHeartbeats 4000000 in
theorem walk (a0 a1 a2 a3 : Int) (w : World) (_ : (Lit.int .i64 a0).wf = true) (_ : (Lit.int .i64 a1).wf = true) (_ : (Lit.int .i64 a2).wf = true) (_ : (Lit.int .i64 a3).wf = true) :
    Calls Try.prog 6 #[.int .i64 a0, .int .i64 a1, .int .i64 a2, .int .i64 a3] w fun e w' => e = .returned (.bool true) ∧ Below w.heap.size w w' := by
  obtain ⟨u0, hu0, _⟩ := u64_nat a0
  obtain ⟨n0, hn0⟩ : ∃ n, u0 % 63 = n := ⟨_, rfl⟩
  have t0 : (u0 : Int).tmod 63 = (n0 : Int) := by rw [← hn0]; exact tmod_nat u0 63
  have q0 : IntKind.i64.wrap (n0 : Int) = n0 := i64_nat _ (by omega)
  obtain ⟨m0, hm0⟩ : ∃ m : Int, 1 + (n0 : Int) = m := ⟨_, rfl⟩
  have r0 : IntKind.i64.wrap (1 + (n0 : Int)) = m0 := by rw [hm0]; exact IntWalk.i64_in _ (by omega)
  have b0 : n0 < 63 := by omega
  clear hn0
  obtain ⟨u1, hu1, _⟩ := u64_nat a1
  obtain ⟨n1, hn1⟩ : ∃ n, u1 % 16 = n := ⟨_, rfl⟩
  have t1 : (u1 : Int).tmod 16 = (n1 : Int) := by rw [← hn1]; exact tmod_nat u1 16
  have q1 : IntKind.i64.wrap (n1 : Int) = n1 := i64_nat _ (by omega)
  obtain ⟨m1, hm1⟩ : ∃ m : Int, 1 + (n1 : Int) = m := ⟨_, rfl⟩
  have r1 : IntKind.i64.wrap (1 + (n1 : Int)) = m1 := by rw [hm1]; exact IntWalk.i64_in _ (by omega)
  have b1 : n1 < 16 := by omega
  clear hn1
  obtain ⟨u2, hu2, _⟩ := u64_nat a2
  obtain ⟨n2, hn2⟩ : ∃ n, u2 % 1000 = n := ⟨_, rfl⟩
  have t2 : (u2 : Int).tmod 1000 = (n2 : Int) := by rw [← hn2]; exact tmod_nat u2 1000
  have q2 : IntKind.i64.wrap (n2 : Int) = n2 := i64_nat _ (by omega)
  obtain ⟨m2, hm2⟩ : ∃ m : Int, 1 + (n2 : Int) = m := ⟨_, rfl⟩
  have r2 : IntKind.i64.wrap (1 + (n2 : Int)) = m2 := by rw [hm2]; exact IntWalk.i64_in _ (by omega)
  have b2 : n2 < 1000 := by omega
  clear hn2
  obtain ⟨u3, hu3, _⟩ := u64_nat a3
  obtain ⟨n3, hn3⟩ : ∃ n, u3 % 100 = n := ⟨_, rfl⟩
  have t3 : (u3 : Int).tmod 100 = (n3 : Int) := by rw [← hn3]; exact tmod_nat u3 100
  have q3 : IntKind.i64.wrap (n3 : Int) = n3 := i64_nat _ (by omega)
  obtain ⟨m3, hm3⟩ : ∃ m : Int, 1 + (n3 : Int) = m := ⟨_, rfl⟩
  have r3 : IntKind.i64.wrap (1 + (n3 : Int)) = m3 := by rw [hm3]; exact IntWalk.i64_in _ (by omega)
  have b3 : n3 < 100 := by omega
  clear hn3
  obtain ⟨W, hW, H⟩ := plan_boxed w m0 n1 m2 m3
  have hP : May m0 n1 m2 m3 := by unfold May; omega
  obtain ⟨x0, hx0⟩ : ∃ x : Int, m0 + 1 = x := ⟨_, rfl⟩
  have rx : IntKind.i64.wrap (m0 + 1) = x0 := by rw [hx0]; exact IntWalk.i64_in _ (by omega)
  obtain ⟨y1, hy1⟩ : ∃ y : Int, (n1 : Int) + 1 = y := ⟨_, rfl⟩
  have ry : IntKind.i64.wrap ((n1 : Int) + 1) = y1 := by rw [hy1]; exact IntWalk.i64_in _ (by omega)
  have hQ : May x0 n1 m2 m3 := by unfold May; omega
  have hS : May m0 y1 m2 m3 := by unfold May; omega
  have l0 : ∀ w' : World, Kept (Below W.heap.size W w') → (planLoad (.pointer (some ⟨w.heap.size, 0, none⟩))).run Try.prog w' = .ok (Value.agg #[Value.int IntKind.i64 m0, Value.int IntKind.i64 (n1 : Int), Value.int IntKind.i64 m2, Value.int IntKind.i64 m3]) w' := fun w' h => H.out.1.later w' h.out
  have FF := Lib.hid (And.intro hP (And.intro hQ (And.intro hS (And.intro hx0 (And.intro hy1 (And.intro hm0 (And.intro b0 b1)))))))
  clear hP hQ hS hx0 hy1 hm0 hm1 hm2 hm3 b0 b1 b2 b3 r1
  go_enter Try.func6, Try.ntmps6
  go_upto_region 2 with fail
  go_cut [10, 11] (fun v10 v11 wx => ∃ g h : Nat, v10 = .pointer (some ⟨g, 0, none⟩) ∧ v11 = .pointer (some ⟨h, 0, none⟩) ∧ Hid ((g < h ∨ h < g) ∧ W.heap.size ≤ g ∧ W.heap.size ≤ h ∧ Pq wx g m0 n1 m2 m3 ∧ Pq wx h m0 n1 m2 m3 ∧ Below W.heap.size W wx))
  case first =>
    go_region_held3 (fun w' => Kept (Below W.heap.size W w'))
      (((refine ⟨?_⟩); (repeat' (with_reducible (first | exact Below.refl _ _ | refine Below.drew ?_ | refine below_more ?_ (by assumption) | refine bal ?_ | refine below_row ?_ ?_ | omega)))))
      ((rw [run_store_is (by (repeat' (first
              | ((with_reducible refine IsPl.fresh _ _ ?_); (focus (simp only [size_alloc])); done)
              | (with_reducible refine IsPl.up ?_ _) | (with_reducible refine IsPl.drew ?_) | (with_reducible refine IsPl.row ?_))))]))
    all_goals (go_wp2_with fail; go_meet)
    all_goals
      refine ⟨_, _, rfl, rfl, Lib.hid ⟨by omega, by omega, by omega, ?_, ?_, Kept.out ‹Kept (Below W.heap.size W _)›⟩⟩ <;>
      (repeat' (first
        | ((with_reducible refine Pq.fresh _ _ ?_); (focus (simp only [size_alloc])); done)
        | ((with_reducible refine Pq.fresh _ _ ?_); (focus (with_reducible rfl)))
        | ((with_reducible refine put_at ?_ ?_); (focus (with_reducible rfl)))
        | ((with_reducible refine Pq.past ?_ ?_); rotate_left; (focus omega))
        | (with_reducible refine Pq.alloc ?_ _) | (with_reducible refine Pq.drew ?_)
        | ((with_reducible refine IsPl.fresh _ _ ?_); (focus (simp only [size_alloc])); done)
        | ((with_reducible refine IsPl.fresh _ _ ?_); (focus (with_reducible rfl)))
        | (with_reducible refine IsPl.up ?_ _) | (with_reducible refine IsPl.drew ?_) | (with_reducible refine IsPl.row ?_)))
  case rest =>
    obtain ⟨g, h, rfl, rfl, HC⟩ := hcut
    have c0 := HC.out.2.2.2.1.c0
    have f0 := HC.out.2.2.2.1.free 0
    have D0 := Lib.hid (H.out.1.below HC.out.2.2.2.2.2)
    have hp := D0.out.lt
    have hg : w.heap.size < g := Nat.lt_of_lt_of_le H.out.1.lt HC.out.2.1
    have hh : w.heap.size < h := Nat.lt_of_lt_of_le H.out.1.lt HC.out.2.2.1
    have hgh : g ≠ h := by have := HC.out.1; omega
    have B1 : Below w.heap.size w wc := below_more H.out.2 HC.out.2.2.2.2.2
    obtain ⟨V1, hV1⟩ : ∃ V, wc.setCell ⟨g, 0, none⟩ (.int .i64 x0) = V := ⟨_, rfl⟩
    have K1 : Hid (Pq V1 g x0 n1 m2 m3 ∧ Pq V1 h m0 n1 m2 m3 ∧ Pq V1 w.heap.size m0 n1 m2 m3 ∧ Below w.heap.size w V1) := Lib.hid (by
      rw [← hV1]
      exact ⟨HC.out.2.2.2.1.setl x0, HC.out.2.2.2.2.1.other (q := ⟨g, 0, none⟩) (fun e => hgh e.symm) _, D0.out.other (q := ⟨g, 0, none⟩) (Nat.ne_of_lt hg) _, B1.setCell (p := ⟨g, 0, none⟩) (Nat.le_of_lt hg) _⟩)
    obtain ⟨V2, hV2⟩ : ∃ V, V1.setCell ⟨h, 1, none⟩ (.int .i64 y1) = V := ⟨_, rfl⟩
    have K2 : Hid (Pq V2 g x0 n1 m2 m3 ∧ Pq V2 h m0 y1 m2 m3 ∧ Pq V2 w.heap.size m0 n1 m2 m3 ∧ Below w.heap.size w V2) := Lib.hid (by
      rw [← hV2]
      exact ⟨K1.out.1.other (q := ⟨h, 1, none⟩) hgh _, K1.out.2.1.sets y1, K1.out.2.2.1.other (q := ⟨h, 1, none⟩) (Nat.ne_of_lt hh) _, K1.out.2.2.2.setCell (p := ⟨h, 1, none⟩) (Nat.le_of_lt hh) _⟩)
    have c1 := K1.out.2.1.c1
    have f1 := K1.out.2.1.free 1
    clear hp hg hh hgh B1 l0 D0
    go_wp2_with fail
    have r0 := K2.out.1.later
    have r1 := K2.out.2.1.later
    have r2 := K2.out.2.2.1.later
    clear c0 f0 c1 f1 hV1 hV2 rx ry
    obtain ⟨hP, hQ, hS, hx0, hy1, hm0, b0, b1⟩ := FF.out
    obtain ⟨z0, e0⟩ : ∃ v, wdM m0 = v := ⟨_, rfl⟩
    obtain ⟨z1, e1⟩ : ∃ v, wdM x0 = v := ⟨_, rfl⟩
    obtain ⟨z2, e2⟩ : ∃ v, pgM m0 = v := ⟨_, rfl⟩
    obtain ⟨z3, e3⟩ : ∃ v, pgM x0 = v := ⟨_, rfl⟩
    obtain ⟨z4, e4⟩ : ∃ v, lgM m0 = v := ⟨_, rfl⟩
    obtain ⟨z5, e5⟩ : ∃ v, lgM x0 = v := ⟨_, rfl⟩
    obtain ⟨z6, e6⟩ : ∃ v, dvM m0 n1 = v := ⟨_, rfl⟩
    obtain ⟨z7, e7⟩ : ∃ v, dvM x0 n1 = v := ⟨_, rfl⟩
    have e8 : dvM m0 y1 = z7 := by rw [← e7]; unfold dvM; omega
    obtain ⟨z9, e9⟩ : ∃ v : Int, z3 - z2 = v := ⟨_, rfl⟩
    have k1 : IntKind.i64.wrap (z0 + 8) = z1 := by rw [← e0, ← e1]; unfold wdM; rw [show m0 * 8 + 8 = x0 * 8 by omega]; exact IntWalk.i64_in _ (by omega)
    have k2 : IntKind.i64.wrap (z4 + 1) = z5 := by rw [← e4, ← e5]; unfold lgM; rw [show 16 + m0 + 1 = 16 + x0 by omega]; exact IntWalk.i64_in _ (by omega)
    have k3 : IntKind.i64.wrap (z6 + 1) = z7 := by rw [← e6, ← e7]; unfold dvM; rw [show 17 + m0 + (n1 : Int) + 1 = 17 + x0 + n1 by omega]; exact IntWalk.i64_in _ (by omega)
    have k4 : IntKind.i64.wrap (z3 - z2) = z9 := by rw [e9]; exact IntWalk.i64_in _ (by rw [← e9, ← e3, ← e2]; unfold pgM; omega)
    have k5 : z9 ≤ 1 := by rw [← e9, ← e3, ← e2]; unfold pgM; omega
    have k6 : z3 ≥ z2 := by rw [← e3, ← e2]; unfold pgM; omega
    clear FF hx0 hy1 hm0 b0 b1 e9 H HC K1
    go_region_held3 (fun w' => Below V2.heap.size V2 w')
      (first | exact (Below.refl _ _).drew | exact below_more ‹Below V2.heap.size V2 _› hbq)
      (first
        | (go_at_call 13; refine (device_any (by assumption) (by assumption) _).mono ?_; rintro e wq ⟨rfl, hbq⟩)
        | (go_at_call 9; refine (words_any (by assumption) (by assumption) _).mono ?_; rintro e wq ⟨rfl, hbq⟩)
        | (go_at_call 12; refine (logical_any (by assumption) (by assumption) _).mono ?_; rintro e wq ⟨rfl, hbq⟩)
        | (go_at_call 10; refine (pages_any (by assumption) (by assumption) _).mono ?_; rintro e wq ⟨rfl, hbq⟩)
        | (go_at_call 16; refine (awake_any _).mono ?_; rintro e wq ⟨rfl, hbq⟩))
    have HB := Lib.hid (below_more K2.out.2.2.2 ‹Below V2.heap.size V2 wq›)
    go_wp2
    go_ret
    exact ⟨rfl, HB.out⟩

set_option maxRecDepth 100000 in
theorem lifted (os : Os) (started : os.Started) (H : Type) (enc : TypeId × Value → H) :
    ReturnsInHanded {} Try.checked os 6 .any (Rows.planMoreSpec.pre6 enc Try.prog Try.f6 Rows.planMoreRow.domain false) (Rows.planMoreSpec.post enc Try.prog Try.f6 false true false false) := by
  refine returnsInHanded_of_change (C := Try.checked) own started (by kernel_rfl) Try.func6
    (ChangeSpec.witness6 (enc := enc) (C := Try.checked) false ⟨#[], #[.int .i64 0, .int .i64 0, .int .i64 0, .int .i64 0], []⟩ 8 (by kernel_rfl) (by kernel_rfl) (by kernel_rfl) (by kernel_rfl)) ?_
  intro W base args ds gs before hval0 hW hcnd _
  have hval : ∀ (j : Nat) t v, Try.f6.params[j]? = some t → args[j]? = some v → Value.okWide Try.prog W .any base t v := hval0
  have hW' := hW
  have hlt := hW.lt
  obtain ⟨p, q, hA0, hV, hpq, hfz, hnd⟩ := hW
  have hA : DataW.TrodAll enc Try.prog W 0 (fun _ => true) true Try.f6.params.toList args.toList ds p := hA0
  rw [Try.params6] at hA hval
  obtain ⟨v0, vs0, d0, ds0, p0, q0, hargs, rfl, hp, h0, r0⟩ := trodAll_cons hA
  obtain ⟨v1, vs1, d1, ds1, p1, q1, rfl, rfl, rfl, h1, r1⟩ := trodAll_cons r0
  obtain ⟨v2, vs2, d2, ds2, p2, q2, rfl, rfl, rfl, h2, r2⟩ := trodAll_cons r1
  obtain ⟨v3, vs3, d3, ds3, p3, q3, rfl, rfl, rfl, h3, r3⟩ := trodAll_cons r2
  obtain ⟨rfl, rfl, rfl⟩ := trodAll_nil r3
  obtain rfl : args = #[v0, v1, v2, v3] := by cases args; simp_all
  obtain ⟨rfl, rfl⟩ := trodVars_none hV
  have hlt' : ∀ x ∈ before, x.block < W.heap.size := fun x hx => hlt x hx
  obtain ⟨a0, rfl, rfl, rfl, w0⟩ := open_int Try.underlying3 (hval 0 3 v0 rfl rfl) h0
  obtain ⟨a1, rfl, rfl, rfl, w1⟩ := open_int Try.underlying3 (hval 1 3 v1 rfl rfl) h1
  obtain ⟨a2, rfl, rfl, rfl, w2⟩ := open_int Try.underlying3 (hval 2 3 v2 rfl rfl) h2
  obtain ⟨a3, rfl, rfl, rfl, w3⟩ := open_int Try.underlying3 (hval 3 3 v3 rfl rfl) h3
  refine (walk a0 a1 a2 a3 W w0 w1 w2 w3).mono fun e W' ⟨he, hb⟩ => ?_
  subst he
  exact ⟨_, rfl, law_post rfl (by kernel_rfl) hW' (by rw [Try.params6]; intro t ht; simp only [List.mem_cons, List.not_mem_nil, or_false] at ht; (repeat' (first | (rcases ht with rfl | ht) | subst ht)) <;> exact ⟨by kernel_rfl, of_decide_eq_true (by kernel_rfl)⟩) rfl hb⟩

theorem over : Rows.planMoreRow.holds Try.pinned (OpenSpec.ofChange Rows.planMoreSpec) :=
  OpenClaim.holds_of_wide 6 Try.f6 rfl rfl rfl rfl rfl rfl rfl ⟨rfl, rfl, rfl, rfl, rfl⟩ rfl rfl rfl rfl rfl (by kernel_rfl) Try.func6 (by kernel_rfl)
    (of_decide_eq_true (by kernel_rfl)) (by unfold Func.isWrapper; first | (rw [if_pos (by decide +kernel)]; kernel_rfl) | (rw [if_neg (by decide +kernel)]; exact ⟨rfl, rfl⟩))
    (fun os started H enc _ => lifted os started H enc)

theorem proved : Rows.PlanMoreSaid := over
end Go.Proofs.Ytojblhgdnolcdaa.planMore
