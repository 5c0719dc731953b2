/-
  A mix of a line and one of which one word alone is other is one or the other; of any two lines each word of a mix is one of both; mixed again it is no more torn; whatever the lines, the place, the word and the mask are. No conditions.
-/
import Derived.Test.YtipibpkfpmlalaaAwt
namespace Go.Proofs.Ytipibpkfpmlalaa.tornOne
open Go.Proofs.Ytipibpkfpmlalaa Go.ChangeShapes Go.WideShapes Go.ChangeAt Go.RowKit

theorem mix_one : ∀ (a : List Int) (j : Nat) (v m : Int), mix a (a.set j v) m = a ∨ mix a (a.set j v) m = a.set j v
  | [], _, _, _ => .inl rfl
  | x :: xs, 0, v, m => by
    have : ∀ (xs : List Int) (m : Int), mix xs xs m = xs := by
      intro xs
      induction xs with
      | nil => intro m; rfl
      | cons x xs ih => intro m; simp [mix, ih]
    simp only [List.set_cons_zero, mix, this]
    by_cases h : m % 2 = 1
    · exact .inr (by simp [h])
    · exact .inl (by simp [h])
  | x :: xs, j + 1, v, m => by
    simp only [List.set_cons_succ, mix]
    rcases mix_one xs j v (m / 2) with h | h
    · exact .inl (by simp [h])
    · exact .inr (by simp [h])
theorem mix_255 : ∀ (a b : List Int), a.length = 8 → b.length = 8 → mix a b 255 = b := by
  intro a b ha hb
  apply list_ext
  · rw [mix_length _ _ _ (by omega)]; omega
  · intro i hi
    rw [mix_length _ _ _ (by omega), ha] at hi
    rw [mix_at _ _ _ _ (by omega) (by omega), if_pos]
    rcases (by omega : i = 0 ∨ i = 1 ∨ i = 2 ∨ i = 3 ∨ i = 4 ∨ i = 5 ∨ i = 6 ∨ i = 7) with h | h | h | h | h | h | h | h <;> subst h <;> decide
theorem mix_0 : ∀ (a b : List Int), a.length = b.length → mix a b 0 = a
  | [], [], _ => rfl
  | o :: os, n :: ns, h => by
    have := mix_0 os ns (by simpa using h)
    simp [mix, this]
  | [], _ :: _, h => by simp at h
  | _ :: _, [], h => by simp at h
theorem mix_twice : ∀ (a b : List Int) (m : Int), a.length = b.length → mix (mix a b m) b m = mix a b m
  | [], [], _, _ => rfl
  | o :: os, n :: ns, m, h => by
    simp only [mix, mix_twice os ns (m / 2) (by simpa using h)]
    by_cases h : m % 2 = 1 <;> simp [h]
  | [], _ :: _, _, h => by simp at h
  | _ :: _, [], _, h => by simp at h

set_option maxRecDepth 100000 in
set_option maxHeartbeats 2000000 in
theorem main (a b o z : List Int) (B : Bool) (at_ v m : Int) (j : Nat) (w : World) (ha : a.length = 8) (hb : b.length = 8)
    (ht : wrap64 ((IntKind.u64.wrap at_).tmod 8) = (j : Int)) (hj : j < 8) (ho : a.set j v = o) (ho8 : o.length = 8) (hz8 : z.length = 8) (hz : mix a o m = z) (t1 : (z == a) = B) (t2 : B = false → (z == o) = true) :
    Calls Try.prog 4 #[.agg (lc a), .agg (lc b), .int .i64 at_, .int .u64 v, .int .i64 m] w fun e w' => e = .returned (.bool true) ∧ Below w.heap.size w w' := by
  obtain ⟨W, hW, H⟩ := boxed2 w ha hb
  obtain ⟨W2, hW2, H2⟩ := boxed1 W ho8
  have K0 := Lib.hid (H.out.1.below H2.out.2)
  have K1 := Lib.hid (H.out.2.1.below H2.out.2)
  have B2 := Lib.hid (below_more H.out.2.2 H2.out.2)
  have l0 := H.out.1.load
  have l0' := K0.out.load
  have l2 := H2.out.1.load
  have CM := Lib.hid (mix_is hz W2 ha ho8)
  have XE := Lib.hid (mix_is (a := a) (b := b) (m := m) rfl)
  have XL := Lib.hid (mix_length a b m (by omega))
  have XA := Lib.hid (mix_at a b m)
  have e1 := mix_255 (mix a b m) b (by rw [XL.out]; exact ha) hb
  have e2 := mix_0 a b (by omega)
  have e3 := mix_twice a b m (by omega)
  have e4 := could_mix a b m (by omega)
  generalize mix a b m = x at *
  clear hz
  go_enter Try.func4, Try.ntmps4
  cases B
  · go_wp2_with fail
    refine CM.out.mono ?_; rintro e w3 ⟨rfl, hb3⟩
    have B3 := Lib.hid (below_more B2.out hb3)
    obtain ⟨W3, hW3, H3⟩ := boxed1 w3 hz8
    have J0 := Lib.hid ((K0.out.below hb3).below H3.out.2)
    have J1 := Lib.hid ((K1.out.below hb3).below H3.out.2)
    have J2 := Lib.hid ((H2.out.1.below hb3).below H3.out.2)
    have B4 := Lib.hid (below_more B3.out H3.out.2)
    clear l0 l0' l2 hW hW2 hb3
    have l2 := J2.out.load
    have l0 := J0.out.load
    have l1 := J1.out.load
    have l3 := H3.out.1.load
    go_wp2_with fail
    refine (XE.out _ ha hb).mono ?_; rintro e w5 ⟨rfl, hb5⟩
    have x8 : x.length = 8 := by rw [XL.out]; exact ha
    have B5 := Lib.hid (below_more B4.out hb5)
    obtain ⟨W5, hW5, H5⟩ := boxed1 w5 x8
    have I0 := Lib.hid ((J0.out.below hb5).below H5.out.2)
    have I1 := Lib.hid ((J1.out.below hb5).below H5.out.2)
    have B6 := Lib.hid (below_more B5.out H5.out.2)
    clear l0 l1 l2 l3 hW3 hb5
    go_wp2
    go_loopw [39] (fun i wr => ∃ k : Nat, k ≤ 8 ∧ i = .int .i64 k ∧ Hid (Below W5.heap.size W5 wr)) (fun i _ => 8 - (intOf i).toNat)
    case atStart => exact ⟨0, by omega, rfl, Lib.hid (Below.refl _ _)⟩
    case round =>
      obtain ⟨k, hk, rfl, HB⟩ := hrel
      by_cases hlt : k < 8
      · obtain ⟨c0, _⟩ := (I0.out.below HB.out).cell hlt
        obtain ⟨c1, _⟩ := (I1.out.below HB.out).cell hlt
        obtain ⟨cx, _⟩ := (H5.out.1.below HB.out).cell hlt
        have E := XA.out k (by omega) (by omega)
        have hpq : x.getD k 0 = a.getD k 0 ∨ x.getD k 0 = b.getD k 0 := by
          rw [E]; split
          · exact .inr rfl
          · exact .inl rfl
        clear E
        generalize x.getD k 0 = p at *
        generalize a.getD k 0 = q at *
        generalize b.getD k 0 = r at *
        have i0 : (0 : Int) ≤ (k : Int) := by omega
        have i8 : (k : Int) < 8 := by omega
        by_cases h : p = q
        · subst h
          clear hpq
          go_wp2
          go_quiet (fail)
          go_wp2
          exact ⟨⟨k + 1, by omega, by go_num, Lib.hid (below_drewN HB.out nq)⟩, by simp [intOf]; omega⟩
        · have hpr : p = r := hpq.resolve_left h
          subst hpr
          have hb : (p == q) = false := beq_eq_false_iff_ne.2 h
          have hb2 : (p != q) = true := by simp [bne, hb]
          have hb3 : (!(p == q)) = true := by simp [hb]
          clear hpq
          go_wp2
          go_quiet (fail)
          go_wp2
          exact ⟨⟨k + 1, by omega, by go_num, Lib.hid (below_drewN HB.out nq)⟩, by simp [intOf]; omega⟩
      · obtain rfl : k = 8 := by omega
        have l0 := (I0.out.below HB.out).later
        have l1 := (I1.out.below HB.out).later
        have lx := (H5.out.1.below HB.out).later
        have B7 := Lib.hid (below_more B6.out HB.out)
        go_wp2
        go_region_held3 (fun w' => Below wr.heap.size wr w')
          (first | exact (Below.refl _ _).drew | exact below_more ‹Below wr.heap.size wr _› hbq)
          (first
            | (go_at_call 8; refine (mix_any _ _ _ _ (by assumption) (by assumption)).mono ?_; rintro e wq ⟨rfl, hbq⟩)
            | (go_at_call 10; refine (could_go _ _ _ _ (by assumption) (by assumption) (by assumption)).mono ?_; rintro e wq ⟨rfl, hbq⟩)
            | (go_at_call 12; refine (awake_any _).mono ?_; rintro e wq ⟨rfl, hbq⟩))
        have B8 := Lib.hid (below_more B7.out ‹Below wr.heap.size wr wq›)
        go_wp2
        go_ret
        exact ⟨rfl, B8.out⟩
  · go_wp2_with fail
    refine CM.out.mono ?_; rintro e w3 ⟨rfl, hb3⟩
    have B3 := Lib.hid (below_more B2.out hb3)
    obtain ⟨W3, hW3, H3⟩ := boxed1 w3 hz8
    have J0 := Lib.hid ((K0.out.below hb3).below H3.out.2)
    have J1 := Lib.hid ((K1.out.below hb3).below H3.out.2)
    have J2 := Lib.hid ((H2.out.1.below hb3).below H3.out.2)
    have B4 := Lib.hid (below_more B3.out H3.out.2)
    clear l0 l0' l2 hW hW2 hb3
    have l2 := J2.out.load
    have l0 := J0.out.load
    have l1 := J1.out.load
    have l3 := H3.out.1.load
    go_wp2_with fail
    refine (XE.out _ ha hb).mono ?_; rintro e w5 ⟨rfl, hb5⟩
    have x8 : x.length = 8 := by rw [XL.out]; exact ha
    have B5 := Lib.hid (below_more B4.out hb5)
    obtain ⟨W5, hW5, H5⟩ := boxed1 w5 x8
    have I0 := Lib.hid ((J0.out.below hb5).below H5.out.2)
    have I1 := Lib.hid ((J1.out.below hb5).below H5.out.2)
    have B6 := Lib.hid (below_more B5.out H5.out.2)
    clear l0 l1 l2 l3 hW3 hb5
    go_wp2
    go_loopw [39] (fun i wr => ∃ k : Nat, k ≤ 8 ∧ i = .int .i64 k ∧ Hid (Below W5.heap.size W5 wr)) (fun i _ => 8 - (intOf i).toNat)
    case atStart => exact ⟨0, by omega, rfl, Lib.hid (Below.refl _ _)⟩
    case round =>
      obtain ⟨k, hk, rfl, HB⟩ := hrel
      by_cases hlt : k < 8
      · obtain ⟨c0, _⟩ := (I0.out.below HB.out).cell hlt
        obtain ⟨c1, _⟩ := (I1.out.below HB.out).cell hlt
        obtain ⟨cx, _⟩ := (H5.out.1.below HB.out).cell hlt
        have E := XA.out k (by omega) (by omega)
        have hpq : x.getD k 0 = a.getD k 0 ∨ x.getD k 0 = b.getD k 0 := by
          rw [E]; split
          · exact .inr rfl
          · exact .inl rfl
        clear E
        generalize x.getD k 0 = p at *
        generalize a.getD k 0 = q at *
        generalize b.getD k 0 = r at *
        have i0 : (0 : Int) ≤ (k : Int) := by omega
        have i8 : (k : Int) < 8 := by omega
        by_cases h : p = q
        · subst h
          clear hpq
          go_wp2
          go_quiet (fail)
          go_wp2
          exact ⟨⟨k + 1, by omega, by go_num, Lib.hid (below_drewN HB.out nq)⟩, by simp [intOf]; omega⟩
        · have hpr : p = r := hpq.resolve_left h
          subst hpr
          have hb : (p == q) = false := beq_eq_false_iff_ne.2 h
          have hb2 : (p != q) = true := by simp [bne, hb]
          have hb3 : (!(p == q)) = true := by simp [hb]
          clear hpq
          go_wp2
          go_quiet (fail)
          go_wp2
          exact ⟨⟨k + 1, by omega, by go_num, Lib.hid (below_drewN HB.out nq)⟩, by simp [intOf]; omega⟩
      · obtain rfl : k = 8 := by omega
        have l0 := (I0.out.below HB.out).later
        have l1 := (I1.out.below HB.out).later
        have lx := (H5.out.1.below HB.out).later
        have B7 := Lib.hid (below_more B6.out HB.out)
        go_wp2
        go_region_held3 (fun w' => Below wr.heap.size wr w')
          (first | exact (Below.refl _ _).drew | exact below_more ‹Below wr.heap.size wr _› hbq)
          (first
            | (go_at_call 8; refine (mix_any _ _ _ _ (by assumption) (by assumption)).mono ?_; rintro e wq ⟨rfl, hbq⟩)
            | (go_at_call 10; refine (could_go _ _ _ _ (by assumption) (by assumption) (by assumption)).mono ?_; rintro e wq ⟨rfl, hbq⟩)
            | (go_at_call 12; refine (awake_any _).mono ?_; rintro e wq ⟨rfl, hbq⟩))
        have B8 := Lib.hid (below_more B7.out ‹Below wr.heap.size wr wq›)
        go_wp2
        go_ret
        exact ⟨rfl, B8.out⟩

theorem walk (a b : List Int) (at_ v m : Int) (w : World) (ha : a.length = 8) (_ : wfu a) (hb : b.length = 8) (_ : wfu b) (_ : (Lit.int .i64 at_).wf = true) (_ : (Lit.int .u64 v).wf = true) (_ : (Lit.int .i64 m).wf = true) :
    Calls Try.prog 4 #[.agg (lc a), .agg (lc b), .int .i64 at_, .int .u64 v, .int .i64 m] w fun e w' => e = .returned (.bool true) ∧ Below w.heap.size w w' := by
  obtain ⟨u, hu, _⟩ := u64_nat at_
  have ht : wrap64 ((IntKind.u64.wrap at_).tmod 8) = ((u % 8 : Nat) : Int) := by
    rw [hu, show (8 : Int) = ((8 : Nat) : Int) from rfl, tmod_nat]
    exact IntWalk.wrap64_in _ (by omega)
  refine main a b (a.set (u % 8) v) (mix a (a.set (u % 8) v) m) (mix a (a.set (u % 8) v) m == a) at_ v m (u % 8) w ha hb ht (by omega) rfl (by simpa using ha) (by rw [mix_length _ _ _ (by simp)]; exact ha) rfl rfl fun h => ?_
  rcases mix_one a (u % 8) v m with e | e
  · rw [e] at h; simp at h
  · rw [e]; simp

set_option maxRecDepth 100000 in
theorem lifted (os : Os) (started : os.Started) (H : Type) (enc : TypeId × Value → H) :
    ReturnsInHanded {} Try.checked os 4 .any (Rows.tornOneSpec.pre6 enc Try.prog Try.f4 Rows.tornOneRow.domain false) (Rows.tornOneSpec.post enc Try.prog Try.f4 false true false false) := by
  refine returnsInHanded_of_change (C := Try.checked) own started (by kernel_rfl) Try.func4
    (ChangeSpec.witness6 (enc := enc) (C := Try.checked) false ⟨#[], #[.agg #[.int .u64 0, .int .u64 0, .int .u64 0, .int .u64 0, .int .u64 0, .int .u64 0, .int .u64 0, .int .u64 0], .agg #[.int .u64 0, .int .u64 0, .int .u64 0, .int .u64 0, .int .u64 0, .int .u64 0, .int .u64 0, .int .u64 0], .int .i64 0, .int .u64 0, .int .i64 0], []⟩ 8 (by kernel_rfl) (by kernel_rfl) (by kernel_rfl) (by kernel_rfl)) ?_
  intro W base args ds gs before hval0 hW hcnd _
  have hval : ∀ (j : Nat) t v, Try.f4.params[j]? = some t → args[j]? = some v → Value.okWide Try.prog W .any base t v := hval0
  have hW' := hW
  have hlt := hW.lt
  obtain ⟨p, q, hA0, hV, hpq, hfz, hnd⟩ := hW
  have hA : DataW.TrodAll enc Try.prog W 0 (fun _ => true) true Try.f4.params.toList args.toList ds p := hA0
  rw [Try.params4] at hA hval
  obtain ⟨v0, vs0, d0, ds0, p0, q0, hargs, rfl, hp, h0, r0⟩ := trodAll_cons hA
  obtain ⟨v1, vs1, d1, ds1, p1, q1, rfl, rfl, rfl, h1, r1⟩ := trodAll_cons r0
  obtain ⟨v2, vs2, d2, ds2, p2, q2, rfl, rfl, rfl, h2, r2⟩ := trodAll_cons r1
  obtain ⟨v3, vs3, d3, ds3, p3, q3, rfl, rfl, rfl, h3, r3⟩ := trodAll_cons r2
  obtain ⟨v4, vs4, d4, ds4, p4, q4, rfl, rfl, rfl, h4, r4⟩ := trodAll_cons r3
  obtain ⟨rfl, rfl, rfl⟩ := trodAll_nil r4
  obtain rfl : args = #[v0, v1, v2, v3, v4] := by cases args; simp_all
  obtain ⟨rfl, rfl⟩ := trodVars_none hV
  have hlt' : ∀ x ∈ before, x.block < W.heap.size := fun x hx => hlt x hx
  obtain ⟨l0, rfl, n0, w0⟩ := line_in (hval 0 24 v0 rfl rfl) h0
  obtain ⟨l1, rfl, n1, w1⟩ := line_in (hval 1 24 v1 rfl rfl) h1
  obtain ⟨a2, rfl, rfl, rfl, w2⟩ := open_int Try.underlying3 (hval 2 3 v2 rfl rfl) h2
  obtain ⟨a3, rfl, rfl, rfl, w3⟩ := open_int Try.underlying22 (hval 3 22 v3 rfl rfl) h3
  obtain ⟨a4, rfl, rfl, rfl, w4⟩ := open_int Try.underlying3 (hval 4 3 v4 rfl rfl) h4
  refine (walk l0 l1 a2 a3 a4 W n0 w0 n1 w1 w2 w3 w4).mono fun e W' ⟨he, hb⟩ => ?_
  subst he
  exact ⟨_, rfl, law_post rfl (by kernel_rfl) hW' (by rw [Try.params4]; intro t ht; simp only [List.mem_cons, List.not_mem_nil, or_false] at ht; (repeat' (first | (rcases ht with rfl | ht) | subst ht)) <;> exact ⟨by kernel_rfl, of_decide_eq_true (by kernel_rfl)⟩) rfl hb⟩

theorem over : Rows.tornOneRow.holds Try.pinned (OpenSpec.ofChange Rows.tornOneSpec) :=
  OpenClaim.holds_of_wide 4 Try.f4 rfl rfl rfl rfl rfl rfl rfl ⟨rfl, rfl, rfl, rfl, rfl⟩ rfl rfl rfl rfl rfl (by kernel_rfl) Try.func4 (by kernel_rfl)
    (of_decide_eq_true (by kernel_rfl)) (by unfold Func.isWrapper; first | (rw [if_pos (by decide +kernel)]; kernel_rfl) | (rw [if_neg (by decide +kernel)]; exact ⟨rfl, rfl⟩))
    (fun os started H enc _ => lifted os started H enc)

theorem proved : Rows.TornOneSaid := over
end Go.Proofs.Ytipibpkfpmlalaa.tornOne
