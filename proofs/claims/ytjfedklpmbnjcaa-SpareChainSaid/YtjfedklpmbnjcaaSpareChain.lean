/-
  When the line that stands for a slot fails again and again, the last one given stands for it. No conditions.
-/
import Derived.Test.YtjfedklpmbnjcaaSpw
import Derived.Test.YtjfedklpmbnjcaaSps
namespace Go.Proofs.Ytjfedklpmbnjcaa.spareChain
open Go.Proofs.Ytjfedklpmbnjcaa Go.ChangeShapes Go.WideShapes Go.ChangeAt Go.RowKit

set_option maxHeartbeats 4000000 in
theorem walk (a0 a1 a2 a3 : Int) (w : World) (_ : (Lit.int .i64 a0).wf = true) (_ : (Lit.int .i64 a1).wf = true) (_ : (Lit.int .i64 a2).wf = true) (_ : (Lit.int .i64 a3).wf = true) :
    Calls Try.prog 6 #[.int .i64 a0, .int .i64 a1, .int .i64 a2, .int .i64 a3] w fun e w' => e = .returned (.bool true) ∧ Below w.heap.size w w' := by
  obtain ⟨u0, hu0, _⟩ := u64_nat a0
  obtain ⟨m, hm⟩ : ∃ m, m = u0 % 50 := ⟨_, rfl⟩
  have t0 : (u0 : Int).tmod 50 = (m : Int) := by rw [hm]; exact tmod_nat u0 50
  obtain ⟨s, hs⟩ : ∃ s : Nat, s = m + 1 := ⟨_, rfl⟩
  have k0 : IntKind.i64.wrap (m : Int) = m := IntWalk.i64_in _ (by omega)
  have k1 : IntKind.i64.wrap (1 + (m : Int)) = (s : Int) := by rw [show 1 + (m : Int) = (s : Int) by omega]; exact IntWalk.i64_in _ (by omega)
  have k2 : IntKind.u64.wrap (s : Int) = (s : Int) := by simp [IntKind.wrap, IntKind.signed, IntKind.bits]; omega
  obtain ⟨u3, hu3, _⟩ := u64_nat a3
  obtain ⟨m3, hm3⟩ : ∃ m, m = u3 % 16 := ⟨_, rfl⟩
  have t3 : (u3 : Int).tmod 16 = (m3 : Int) := by rw [hm3]; exact tmod_nat u3 16
  obtain ⟨p, hp⟩ : ∃ p : Nat, p = m3 + 1 := ⟨_, rfl⟩
  have k3 : IntKind.i64.wrap (m3 : Int) = m3 := IntWalk.i64_in _ (by omega)
  have k4 : IntKind.i64.wrap (1 + (m3 : Int)) = (p : Int) := by rw [show 1 + (m3 : Int) = (p : Int) by omega]; exact IntWalk.i64_in _ (by omega)
  obtain ⟨u1, hu1, _⟩ := u64_nat a1
  obtain ⟨a, ha⟩ : ∃ a, a = u1 % s := ⟨_, rfl⟩
  have t1 : (u1 : Int).tmod (s : Int) = (a : Int) := by rw [ha]; exact tmod_nat u1 s
  have has : a < s := by rw [ha]; exact Nat.mod_lt _ (by omega)
  obtain ⟨u2, hu2, _⟩ := u64_nat a2
  obtain ⟨n, hn⟩ : ∃ n, n = u2 % 17 := ⟨_, rfl⟩
  have t2 : (u2 : Int).tmod 17 = (n : Int) := by rw [hn]; exact tmod_nat u2 17
  have k5 : IntKind.i64.wrap (a : Int) = a := IntWalk.i64_in _ (by omega)
  have k6 : IntKind.i64.wrap (n : Int) = n := IntWalk.i64_in _ (by omega)
  have hs0 : ¬ s = 0 := by omega
  have hs50 : s ≤ 50 := by omega
  have hp1 : 1 ≤ p := by omega
  have hp16 : p ≤ 16 := by omega
  have hn17 : n < 17 := by omega
  have k7 : IntKind.u64.wrap (a : Int) = (a : Int) := by simp [IntKind.wrap, IntKind.signed, IntKind.bits]; omega
  have k8 : IntKind.u64.wrap ((a : Int) + 1) = (a : Int) + 1 := by simp [IntKind.wrap, IntKind.signed, IntKind.bits]; omega
  have hx : ¬ (a : Int) + 1 = 0 := by omega
  have X := Lib.hid hx
  have hmk := run_make_row' (P := Try.prog) 22 24 (.int .u64 0) 8 Try.underlying22 info_u64 rfl .i64 .i64 p (by omega) (by omega)
  obtain ⟨W, hW⟩ : ∃ W, w.alloc (.cells (madeCells #[.int .u64 0] p) 24) = W := ⟨_, rfl⟩
  have O := own_made_u w p (by unfold maxLen; omega)
  have B := bal (o := .cells (madeCells #[.int .u64 0] p) 24) (Below.refl w.heap.size w)
  rw [hW] at O B
  rw [← chainT_zero p ((a : Int) + 1)] at O
  have HO := Lib.hid O
  have HB := Lib.hid B
  clear hm hs hm3 hp ha hn O B hx
  go_enter Try.func6, Try.ntmps6
  go_wp2
  go_loopw [35] (fun i wr => ∃ k : Nat, k ≤ n ∧ k ≤ p ∧ i = .int .i64 k ∧ Hid (OwnU w.heap.size wr (.slice (some ⟨w.heap.size, 0, none⟩) p p) (chainT p k ((a : Int) + 1)) ∧ Below w.heap.size w wr)) (fun i _ => n - (intOf i).toNat)
  case atStart => exact ⟨0, Nat.zero_le _, Nat.zero_le _, rfl, Lib.hid ⟨HO.out, HB.out⟩⟩
  case round =>
    obtain ⟨k, hk, hkp, rfl, H⟩ := hrel
    have R := Lib.hid (H.out.1.ru)
    have N1 := Lib.hid (next_any _ _ wr R.out)
    have L1 := Lib.hid (left_any _ _ wr R.out)
    rw [chainT_left hkp X.out] at L1
    clear hW hmk
    by_cases hlt : k < n
    · by_cases hkq : k < p
      · rw [chainT_next hkq X.out] at N1
        have own2 := OwnU.stored H.out.1 k ((a : Int) + 1)
        rw [chainT_set hkq] at own2
        obtain ⟨c1, f1⟩ := OwnU.cells H.out.1 (j := k) (by rw [chainT_length hkp]; exact hkq)
        obtain ⟨w2, hw2⟩ : ∃ w2, wr.setCell ⟨w.heap.size, k, none⟩ (.int .u64 ((a : Int) + 1)) = w2 := ⟨_, rfl⟩
        have B2 := H.out.2.setCell (p := ⟨w.heap.size, k, none⟩) (Nat.le_refl _) (.int .u64 ((a : Int) + 1))
        rw [hw2] at own2 B2
        have O2 := Lib.hid own2
        have HB2 := Lib.hid B2
        have P1 := Lib.hid (place_any _ _ s a w2 own2.ru (by rw [chainT_length (by omega)]; omega))
        rw [chainT_place (by omega) (by omega) (by omega)] at P1
        have e1 : IntKind.i64.wrap ((p : Int) - (k : Int)) = ((p - k : Nat) : Int) := by rw [show ((p : Int) - (k : Int)) = ((p - k : Nat) : Int) by omega]; exact IntWalk.i64_in _ (by omega)
        obtain ⟨d, hd⟩ : ∃ d, p - k = d := ⟨_, rfl⟩
        have e2 : IntKind.i64.wrap ((s : Int) + (k : Int)) = (s : Int) + (k : Int) := IntWalk.i64_in _ (by omega)
        rw [hd] at e1 L1
        clear hd own2 B2
        go_wp2_with fail
        refine (N1.out).mono ?_; rintro e w' ⟨rfl, rfl⟩
        go_wp2_with fail
        refine (L1.out).mono ?_; rintro e w' ⟨rfl, rfl⟩
        go_wp2_with fail
        refine (P1.out).mono ?_; rintro e w3 ⟨rfl, h3⟩
        have O3 := Lib.hid (OwnU.below O2.out h3)
        have HB3 := Lib.hid (below_more HB2.out h3)
        clear h3
        go_wp2
        go_roundw
        case rel => exact ⟨k + 1, by omega, by omega, by go_num, Lib.hid ⟨O3.out, HB3.out⟩⟩
        case measure => simp [intOf]; omega
      · obtain rfl : k = p := by omega
        obtain ⟨q, hq⟩ : ∃ q, k = q + 1 := ⟨k - 1, by omega⟩
        have P1 := Lib.hid (place_any _ _ s a wr R.out (by rw [chainT_length (by omega)]; omega))
        have e0 : placeT (chainT k k ((a : Int) + 1)) s a = (s : Int) + (q : Int) := by rw [hq]; exact chainT_place (by omega) (by omega) (by omega)
        have e1 : IntKind.i64.wrap ((s : Int) + (k : Int)) = (s : Int) + (k : Int) := IntWalk.i64_in _ (by omega)
        have e2 : IntKind.i64.wrap ((s : Int) + (k : Int) - 1) = (s : Int) + (q : Int) := by rw [show (s : Int) + (k : Int) - 1 = (s : Int) + (q : Int) by omega]; exact IntWalk.i64_in _ (by omega)
        rw [e0] at P1
        rw [chainT_full X.out] at N1
        rw [Nat.sub_self] at L1
        clear hq e0
        go_wp2_with fail
        refine (N1.out).mono ?_; rintro e w' ⟨rfl, rfl⟩
        go_wp2_with fail
        refine (L1.out).mono ?_; rintro e w' ⟨rfl, rfl⟩
        go_wp2_with fail
        refine (P1.out).mono ?_; rintro e w3 ⟨rfl, h3⟩
        have HB3 := Lib.hid (below_more H.out.2 h3)
        clear h3
        go_wp2_with fail
        refine (awake_any _).mono ?_; rintro e w4 ⟨rfl, h4⟩
        have HB4 := Lib.hid (below_more HB3.out h4)
        clear h4
        go_wp2
        go_ret
        exact ⟨rfl, HB4.out⟩
    · have M1 := Lib.hid (may_any _ _ s wr R.out (i64_of (by omega) (by omega)))
      have M2 := Lib.hid (rmay_any _ _ s wr R.out (i64_of (by omega) (by omega)))
      rw [chainT_may (by omega) (by omega)] at M1 M2
      obtain rfl : k = n := by omega
      go_wp2_with fail
      refine (M2.out).mono ?_; rintro e w' ⟨rfl, rfl⟩
      go_wp2_with fail
      refine (M1.out).mono ?_; rintro e w' ⟨rfl, rfl⟩
      go_wp2_with fail
      refine (awake_any _).mono ?_; rintro e w4 ⟨rfl, h4⟩
      have HB4 := Lib.hid (below_more H.out.2 h4)
      clear h4
      go_wp2
      go_ret
      exact ⟨rfl, HB4.out⟩

set_option maxRecDepth 100000 in
theorem lifted (os : Os) (started : os.Started) (H : Type) (enc : TypeId × Value → H) :
    ReturnsInHanded {} Try.checked os 6 .any (Rows.spareChainSpec.pre6 enc Try.prog Try.f6 Rows.spareChainRow.domain false) (Rows.spareChainSpec.post enc Try.prog Try.f6 false true false false) := by
  refine returnsInHanded_of_change (C := Try.checked) own started (by kernel_rfl) Try.func6
    (ChangeSpec.witness6 (enc := enc) (C := Try.checked) false ⟨#[], #[.int .i64 0, .int .i64 0, .int .i64 0, .int .i64 0], []⟩ 8 (by kernel_rfl) (by kernel_rfl) (by kernel_rfl) (by kernel_rfl)) ?_
  intro W base args ds gs before hval0 hW hcnd _
  have hval : ∀ (j : Nat) t v, Try.f6.params[j]? = some t → args[j]? = some v → Value.okWide Try.prog W .any base t v := hval0
  have hW' := hW
  have hlt := hW.lt
  obtain ⟨p, q, hA0, hV, hpq, hfz, hnd⟩ := hW
  have hA : DataW.TrodAll enc Try.prog W 0 (fun _ => true) true Try.f6.params.toList args.toList ds p := hA0
  rw [Try.params6] at hA hval
  obtain ⟨v0, vs0, d0, ds0, p0, q0, hargs, rfl, hp, h0, r0⟩ := trodAll_cons hA
  obtain ⟨v1, vs1, d1, ds1, p1, q1, rfl, rfl, rfl, h1, r1⟩ := trodAll_cons r0
  obtain ⟨v2, vs2, d2, ds2, p2, q2, rfl, rfl, rfl, h2, r2⟩ := trodAll_cons r1
  obtain ⟨v3, vs3, d3, ds3, p3, q3, rfl, rfl, rfl, h3, r3⟩ := trodAll_cons r2
  obtain ⟨rfl, rfl, rfl⟩ := trodAll_nil r3
  obtain rfl : args = #[v0, v1, v2, v3] := by cases args; simp_all
  obtain ⟨rfl, rfl⟩ := trodVars_none hV
  have hlt' : ∀ x ∈ before, x.block < W.heap.size := fun x hx => hlt x hx
  obtain ⟨a0, rfl, rfl, rfl, w0⟩ := open_int Try.underlying3 (hval 0 3 v0 rfl rfl) h0
  obtain ⟨a1, rfl, rfl, rfl, w1⟩ := open_int Try.underlying3 (hval 1 3 v1 rfl rfl) h1
  obtain ⟨a2, rfl, rfl, rfl, w2⟩ := open_int Try.underlying3 (hval 2 3 v2 rfl rfl) h2
  obtain ⟨a3, rfl, rfl, rfl, w3⟩ := open_int Try.underlying3 (hval 3 3 v3 rfl rfl) h3
  refine (walk a0 a1 a2 a3 W w0 w1 w2 w3).mono fun e W' ⟨he, hb⟩ => ?_
  subst he
  exact ⟨_, rfl, law_post rfl (by kernel_rfl) hW' (by rw [Try.params6]; intro t ht; simp only [List.mem_cons, List.not_mem_nil, or_false] at ht; (repeat' (first | (rcases ht with rfl | ht) | subst ht)) <;> exact ⟨by kernel_rfl, of_decide_eq_true (by kernel_rfl)⟩) rfl hb⟩

theorem over : Rows.spareChainRow.holds Try.pinned (OpenSpec.ofChange Rows.spareChainSpec) :=
  OpenClaim.holds_of_wide 6 Try.f6 rfl rfl rfl rfl rfl rfl rfl ⟨rfl, rfl, rfl, rfl, rfl⟩ rfl rfl rfl rfl rfl (by kernel_rfl) Try.func6 (by kernel_rfl)
    (of_decide_eq_true (by kernel_rfl)) (by unfold Func.isWrapper; first | (rw [if_pos (by decide +kernel)]; kernel_rfl) | (rw [if_neg (by decide +kernel)]; exact ⟨rfl, rfl⟩))
    (fun os started H enc _ => lifted os started H enc)

theorem proved : Rows.SpareChainSaid := over
end Go.Proofs.Ytjfedklpmbnjcaa.spareChain
