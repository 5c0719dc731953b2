/-
  Of lines that are other in k words each mix is made by as many masks as two taken 8 - k times, of what is no mix by none; whatever the lines and the mask are. No conditions.
-/
import Derived.Test.YtipibpkfpmlalaaAwt
namespace Go.Proofs.Ytipibpkfpmlalaa.tornCounts
open Go.Proofs.Ytipibpkfpmlalaa Go.ChangeShapes Go.WideShapes Go.ChangeAt Go.RowKit

theorem same_take : ∀ (a b : List Int) (k : Nat), a.length = b.length → k < a.length → same (a.take (k + 1)) (b.take (k + 1)) = same (a.take k) (b.take k) + (if a.getD k 0 = b.getD k 0 then 1 else 0)
  | [], _, _, _, h => by simp at h
  | _ :: _, [], _, h, _ => by simp at h
  | x :: xs, y :: ys, 0, _, _ => by simp [same]
  | x :: xs, y :: ys, k + 1, h, hk => by
    have := same_take xs ys k (by simpa using h) (by simpa using hk)
    simp only [List.take_succ_cons, same, List.getD_cons_succ] at this ⊢
    omega
theorem could_first : ∀ (a b : List Int), a.length = b.length → could a b a = true
  | [], [], _ => rfl
  | o :: os, n :: ns, h => by simp [could, could_first os ns (by simpa using h)]
  | [], _ :: _, h => by simp at h
  | _ :: _, [], h => by simp at h
theorem could_second : ∀ (a b : List Int), a.length = b.length → could a b b = true
  | [], [], _ => rfl
  | o :: os, n :: ns, h => by simp [could, could_second os ns (by simpa using h)]
  | [], _ :: _, h => by simp at h
  | _ :: _, [], h => by simp at h
theorem could_not (a b x : List Int) (v : Int) (ha : a.length = 8) (hb : b.length = 8) (hx : x.length = 8) (h1 : ¬ v = a.getD 0 0) (h2 : ¬ v = b.getD 0 0) : could a b (x.set 0 v) = false := by
  match a, b, x with
  | o :: os, n :: ns, c :: cs =>
    have e1 : (o == v) = false := beq_eq_false_iff_ne.2 fun e => h1 (by simp [e])
    have e2 : (n == v) = false := beq_eq_false_iff_ne.2 fun e => h2 (by simp [e])
    simp [could, e1, e2]

set_option maxRecDepth 100000 in
set_option maxHeartbeats 2000000 in
theorem walk (a b : List Int) (m : Int) (w : World) (ha : a.length = 8) (_ : wfu a) (hb : b.length = 8) (_ : wfu b) (_ : (Lit.int .i64 m).wf = true) :
    Calls Try.prog 5 #[.agg (lc a), .agg (lc b), .int .i64 m] w fun e w' => e = .returned (.bool true) ∧ Below w.heap.size w w' := by
  obtain ⟨W, hW, H⟩ := boxed2 w ha hb
  have ST := Lib.hid (same_take a b)
  have SL := Lib.hid (fun k => same_le (a.take k) (b.take k))
  have x8 : (mix a b m).length = 8 := by rw [mix_length _ _ _ (by omega)]; exact ha
  have XE := Lib.hid (mix_is (a := a) (b := b) (m := m) rfl)
  have n1 := Lib.hid (cnt_is a b (mix a b m) (by omega) (by omega))
  rw [could_mix a b m (by omega)] at n1
  have n2 : cnt a b a = 2 ^ same a b := by rw [cnt_is a b a (by omega) (by omega), could_first a b (by omega)]; rfl
  have n3 : cnt a b b = 2 ^ same a b := by rw [cnt_is a b b (by omega) (by omega), could_second a b (by omega)]; rfl
  generalize mix a b m = x at *
  go_enter Try.func5, Try.ntmps5
  go_wp2
  go_loopw [7, 11] (fun n i wr => ∃ k : Nat, k ≤ 8 ∧ i = .int .i64 k ∧ n = .int .i64 ((k : Int) - (same (a.take k) (b.take k) : Nat)) ∧ Hid (Below W.heap.size W wr)) (fun _ i _ => 8 - (intOf i).toNat)
  case atStart => exact ⟨0, by omega, rfl, rfl, Lib.hid (Below.refl _ _)⟩
  case round =>
    obtain ⟨k, hk, rfl, rfl, HB⟩ := hrel
    have hs := SL.out k
    rw [List.length_take, ha, Nat.min_eq_left hk] at hs
    by_cases hlt : k < 8
    · obtain ⟨c0, _⟩ := (H.out.1.below HB.out).cell hlt
      obtain ⟨c1, _⟩ := (H.out.2.1.below HB.out).cell hlt
      have E := Lib.hid (ST.out k (by omega) (by omega))
      generalize same (a.take k) (b.take k) = s at *
      generalize a.getD k 0 = p at *
      generalize b.getD k 0 = q at *
      have i0 : (0 : Int) ≤ (k : Int) := by omega
      have i8 : (k : Int) < 8 := by omega
      go_wp2
      go_quiet (fail)
      go_wp2
      · rename_i ht
        refine ⟨⟨k + 1, by omega, by go_num, ?_, Lib.hid (below_drewN HB.out nq)⟩, by simp [intOf]; omega⟩
        rw [E.out, if_neg (by simpa using ht)]
        congr 1; omega
      · rename_i ht
        refine ⟨⟨k + 1, by omega, by go_num, ?_, Lib.hid (below_drewN HB.out nq)⟩, by simp [intOf]; omega⟩
        rw [E.out, if_pos (by simpa using ht)]
        congr 1; omega
    · obtain rfl : k = 8 := by omega
      rw [List.take_of_length_le (by omega), List.take_of_length_le (by omega)] at hs ⊢
      have K0 := Lib.hid (H.out.1.below HB.out)
      have K1 := Lib.hid (H.out.2.1.below HB.out)
      have B1 := Lib.hid (below_more H.out.2.2 HB.out)
      have l0 := K0.out.load
      have l1 := K1.out.load
      generalize same a b = s at *
      clear hW H HB
      go_wp2_with fail
      refine (XE.out _ ha hb).mono ?_; rintro e w3 ⟨rfl, hb3⟩
      have B3 := Lib.hid (below_more B1.out hb3)
      obtain ⟨W3, hW3, H3⟩ := boxed1 w3 x8
      have J0 := Lib.hid ((K0.out.below hb3).below H3.out.2)
      have J1 := Lib.hid ((K1.out.below hb3).below H3.out.2)
      have B4 := Lib.hid (below_more B3.out H3.out.2)
      clear l0 l1 hb3
      have l3 := H3.out.1.load
      obtain ⟨W4, hW4, H4⟩ := boxed1 W3 x8
      have C0 := Lib.hid (could_not a b x (bits .xor .u64 (bits .xor .u64 (a.getD 0 0) (b.getD 0 0)) 21845) ha hb x8)
      have I0 := J0.out.below H4.out.2
      have I1 := J1.out.below H4.out.2
      have I3 := H3.out.1.below H4.out.2
      have lt0 := J0.out.lt
      have lt1 := J1.out.lt
      have lt3 := H3.out.1.lt
      obtain ⟨c0, _⟩ := I0.cell (i := 0) (by omega)
      obtain ⟨c1, _⟩ := I1.cell (i := 0) (by omega)
      obtain ⟨c4, f4⟩ := H4.out.1.cell (i := 0) (by omega)
      generalize hp : a.getD 0 0 = p at *
      generalize hq : b.getD 0 0 = q at *
      obtain ⟨V, hV⟩ : ∃ V, bits .xor .u64 (bits .xor .u64 p q) 21845 = V := ⟨_, rfl⟩
      rw [hV] at C0
      obtain ⟨W5, hW5⟩ : ∃ W5, W4.setCell ⟨W3.heap.size, 0, none⟩ (.int .u64 V) = W5 := ⟨_, rfl⟩
      have Z0 := Lib.hid (I0.other (i := 0) (show w.heap.size ≠ W3.heap.size by omega) (.int .u64 V))
      have Z1 := Lib.hid (I1.other (i := 0) (show w.heap.size + 1 ≠ W3.heap.size by omega) (.int .u64 V))
      have Z3 := Lib.hid (I3.other (i := 0) (show w3.heap.size ≠ W3.heap.size by omega) (.int .u64 V))
      have Z4 := Lib.hid (H4.out.1.set_ 0 V)
      have B5 := Lib.hid (below_more B4.out (H4.out.2.setCell (p := ⟨W3.heap.size, 0, none⟩) (Nat.le_refl _) (.int .u64 V)))
      rw [hW5] at Z0 Z1 Z3 Z4 B5
      have d0 := (Z0.out.cell (i := 0) (by omega)).1
      have d1 := (Z1.out.cell (i := 0) (by omega)).1
      have d4 : W5.cell? ⟨W3.heap.size, 0, none⟩ = some (.int .u64 V) := by
        have := (Z4.out.cell (i := 0) (by omega)).1
        rw [getD_set, if_pos ⟨rfl, by omega⟩] at this; exact this
      rw [hp] at d0
      rw [hq] at d1
      clear I0 I1 I3 lt0 lt1 lt3 hp hq
      obtain ⟨T, hT⟩ : ∃ T : Nat, 2 ^ s = T := ⟨_, rfl⟩
      have k1 : cnt a b x = T := by rw [n1.out, ← hT]; rfl
      have k3 : cnt a b a = T := by rw [n2, hT]
      have k4 : cnt a b b = T := by rw [n3, hT]
      have E10 : wrap64 ((2 : Int) ^ s) = (T : Int) := by
        rw [← hT]
        have h1 : (0 : Int) < 2 ^ s := Int.pow_pos (by omega)
        have h2 : 2 ^ s ≤ 2 ^ 8 := Nat.pow_le_pow_right (by omega) hs
        have h3 : ((2 ^ s : Nat) : Int) ≤ ((2 ^ 8 : Nat) : Int) := Int.ofNat_le.2 h2
        simp at h3
        rw [IntWalk.wrap64_in _ (by omega)]; simp
      have E9 : wrap64 ((2 : Int) ^ (8 - (8 - s))) = (T : Int) := by
        rw [show 8 - (8 - s) = s by omega]; exact E10
      have l0 := Z0.out.load
      have l1 := Z1.out.load
      have l3 := Z3.out.load
      have M1 := Lib.hid (masks_is k1 W5 ha hb x8)
      clear n2 n3 hT
      cases h1 : (V == p)
      · cases h2 : (V == q)
        · have y8 : (x.set 0 V).length = 8 := by simpa using x8
          have k2 : could a b (x.set 0 V) = false := C0.out (by simpa using h1) (by simpa using h2)
          have k5 : cnt a b (x.set 0 V) = 0 := by rw [cnt_is _ _ _ (by omega) (by omega), k2]; rfl
          clear l0 l1 l3
          have l0 := Z0.out.later
          have l1 := Z1.out.later
          have l3 := Z3.out.later
          have l4 := Z4.out.later
          have e1 : IntKind.i64.wrap (8 - (8 - (s : Int))) = (s : Int) := (IntWalk.i64_in _ (by omega)).trans (by omega)
          have e2 : IntKind.u64.wrap (s : Int) = (s : Int) := IntWalk.u64_in _ (by omega)
          have e3 : min s 64 = s := Nat.min_eq_left (by omega)
          have e4 : IntKind.i64.wrap ((2 : Int) ^ s) = (T : Int) := (IntWalk.i64_left _).trans E10
          generalize x.set 0 V = Y at *
          go_wp2
          clear hV hW5 hW4 hW3 h1 h2 d0 d1 d4 c0 c1 c4 f4
          go_region_held3 (fun w' => Below W5.heap.size W5 w')
            (first | exact (Below.refl _ _).drew | exact below_more ‹Below W5.heap.size W5 _› hbq)
            (first
              | (go_at_call 11; refine (masks_go _ _ _ _ (by assumption) (by assumption) (by assumption)).mono ?_; rintro e wq ⟨rfl, hbq⟩)
              | (go_at_call 10; refine (could_go _ _ _ _ (by assumption) (by assumption) (by assumption)).mono ?_; rintro e wq ⟨rfl, hbq⟩)
              | (go_at_call 7; refine (rmasks_go _ _ _ _ (by assumption) (by assumption) (by assumption)).mono ?_; rintro e wq ⟨rfl, hbq⟩)
              | (go_at_call 12; refine (awake_any _).mono ?_; rintro e wq ⟨rfl, hbq⟩))
          have B8 := Lib.hid (below_more B5.out ‹Below W5.heap.size W5 wq›)
          go_wp2
          go_ret
          exact ⟨rfl, B8.out⟩
        · go_wp2_with fail
          refine M1.out.mono ?_; rintro e w6 ⟨rfl, hb6⟩
          have B6 := Lib.hid (below_more B5.out hb6)
          clear E10 hb6 hV hW5 hW4 hW3 h1 h2 d0 d1 d4 c0 c1 c4 f4 l0 l1 l3 k1 k3 k4
          go_wp2_with fail
          refine (awake_any _).mono ?_; rintro e w7 ⟨rfl, hb7⟩
          go_wp2_with fail
          go_ret
          exact ⟨rfl, below_more B6.out hb7⟩
      · go_wp2_with fail
        refine M1.out.mono ?_; rintro e w6 ⟨rfl, hb6⟩
        have B6 := Lib.hid (below_more B5.out hb6)
        clear E10 hb6 hV hW5 hW4 hW3 h1 d0 d1 d4 c0 c1 c4 f4 l0 l1 l3 k1 k3 k4
        go_wp2_with fail
        refine (awake_any _).mono ?_; rintro e w7 ⟨rfl, hb7⟩
        go_wp2_with fail
        go_ret
        exact ⟨rfl, below_more B6.out hb7⟩

set_option maxRecDepth 100000 in
theorem lifted (os : Os) (started : os.Started) (H : Type) (enc : TypeId × Value → H) :
    ReturnsInHanded {} Try.checked os 5 .any (Rows.tornCountsSpec.pre6 enc Try.prog Try.f5 Rows.tornCountsRow.domain false) (Rows.tornCountsSpec.post enc Try.prog Try.f5 false true false false) := by
  refine returnsInHanded_of_change (C := Try.checked) own started (by kernel_rfl) Try.func5
    (ChangeSpec.witness6 (enc := enc) (C := Try.checked) false ⟨#[], #[.agg #[.int .u64 0, .int .u64 0, .int .u64 0, .int .u64 0, .int .u64 0, .int .u64 0, .int .u64 0, .int .u64 0], .agg #[.int .u64 0, .int .u64 0, .int .u64 0, .int .u64 0, .int .u64 0, .int .u64 0, .int .u64 0, .int .u64 0], .int .i64 0], []⟩ 8 (by kernel_rfl) (by kernel_rfl) (by kernel_rfl) (by kernel_rfl)) ?_
  intro W base args ds gs before hval0 hW hcnd _
  have hval : ∀ (j : Nat) t v, Try.f5.params[j]? = some t → args[j]? = some v → Value.okWide Try.prog W .any base t v := hval0
  have hW' := hW
  have hlt := hW.lt
  obtain ⟨p, q, hA0, hV, hpq, hfz, hnd⟩ := hW
  have hA : DataW.TrodAll enc Try.prog W 0 (fun _ => true) true Try.f5.params.toList args.toList ds p := hA0
  rw [Try.params5] at hA hval
  obtain ⟨v0, vs0, d0, ds0, p0, q0, hargs, rfl, hp, h0, r0⟩ := trodAll_cons hA
  obtain ⟨v1, vs1, d1, ds1, p1, q1, rfl, rfl, rfl, h1, r1⟩ := trodAll_cons r0
  obtain ⟨v2, vs2, d2, ds2, p2, q2, rfl, rfl, rfl, h2, r2⟩ := trodAll_cons r1
  obtain ⟨rfl, rfl, rfl⟩ := trodAll_nil r2
  obtain rfl : args = #[v0, v1, v2] := by cases args; simp_all
  obtain ⟨rfl, rfl⟩ := trodVars_none hV
  have hlt' : ∀ x ∈ before, x.block < W.heap.size := fun x hx => hlt x hx
  obtain ⟨l0, rfl, n0, w0⟩ := line_in (hval 0 24 v0 rfl rfl) h0
  obtain ⟨l1, rfl, n1, w1⟩ := line_in (hval 1 24 v1 rfl rfl) h1
  obtain ⟨a2, rfl, rfl, rfl, w2⟩ := open_int Try.underlying3 (hval 2 3 v2 rfl rfl) h2
  refine (walk l0 l1 a2 W n0 w0 n1 w1 w2).mono fun e W' ⟨he, hb⟩ => ?_
  subst he
  exact ⟨_, rfl, law_post rfl (by kernel_rfl) hW' (by rw [Try.params5]; intro t ht; simp only [List.mem_cons, List.not_mem_nil, or_false] at ht; (repeat' (first | (rcases ht with rfl | ht) | subst ht)) <;> exact ⟨by kernel_rfl, of_decide_eq_true (by kernel_rfl)⟩) rfl hb⟩

theorem over : Rows.tornCountsRow.holds Try.pinned (OpenSpec.ofChange Rows.tornCountsSpec) :=
  OpenClaim.holds_of_wide 5 Try.f5 rfl rfl rfl rfl rfl rfl rfl ⟨rfl, rfl, rfl, rfl, rfl⟩ rfl rfl rfl rfl rfl (by kernel_rfl) Try.func5 (by kernel_rfl)
    (of_decide_eq_true (by kernel_rfl)) (by unfold Func.isWrapper; first | (rw [if_pos (by decide +kernel)]; kernel_rfl) | (rw [if_neg (by decide +kernel)]; exact ⟨rfl, rfl⟩))
    (fun os started H enc _ => lifted os started H enc)

theorem proved : Rows.TornCountsSaid := over
end Go.Proofs.Ytipibpkfpmlalaa.tornCounts
