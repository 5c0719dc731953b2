/-
  Given to a slot, the next spare line stands for it, and there is one less; the others are where they were. No conditions.
-/
import Derived.Test.YtjfedklpmbnjcaaSpw
import Derived.Test.YtjfedklpmbnjcaaSps
import Derived.Deep.QuietTactic
namespace Go.Proofs.Ytjfedklpmbnjcaa.spareNext
open Go.Proofs.Ytjfedklpmbnjcaa Go.ChangeShapes Go.WideShapes Go.ChangeAt Go.RowKit

theorem far (p : Option Addr) (n cap : Nat) (a1 a2 a3 : Int) (w : World) (h : 100 < n) :
    Calls Try.prog 5 #[.slice p n cap, .int .i64 a1, .int .i64 a2, .int .i64 a3] w fun e w' => e = .returned (.bool true) ∧ Below w.heap.size w w' := by
  obtain ⟨u, hu, _⟩ := u64_nat a1
  obtain ⟨m, t1⟩ : ∃ m : Nat, (u : Int).tmod 100 = (m : Int) := ⟨u % 100, tmod_nat u 100⟩
  go_enter Try.func5, Try.ntmps5
  go_wp2_with fail
  refine (awake_any _).mono ?_; rintro e w' ⟨rfl, hb⟩
  go_wp2_with fail
  go_ret
  exact ⟨rfl, hb⟩

theorem place_on {W w' : World} {v : Value} {l : List Int} {s a x : Int} (h : RU W v l) (hm : s + l.length < 4611686018427387904) (hx : placeT l s a = x) (hb : Below W.heap.size W w') :
    Calls Try.prog 11 #[v, .int .i64 s, .int .i64 a] w' fun e w'' => e = .returned (.int .i64 x) ∧ Below W.heap.size W w'' := by
  subst hx
  exact (place_any v l s a w' (ru_below h hb) hm).mono fun e w'' ⟨h1, h2⟩ => ⟨h1, below_more hb h2⟩
theorem left_on {W w' : World} {v : Value} {l : List Int} {x : Int} (h : RU W v l) (hx : ((leftT l : Nat) : Int) = x) (hb : Below W.heap.size W w') :
    Calls Try.prog 15 #[v] w' fun e w'' => e = .returned (.int .i64 x) ∧ w' = w'' := by
  subst hx
  exact left_any v l w' (ru_below h hb)

set_option maxHeartbeats 4000000 in
theorem near (l : List Int) (p : Option Addr) (cap : Nat) (a1 a2 a3 : Int) (w : World) (hr : RU w (.slice p l.length cap) l) (hl : ¬ 100 < l.length) :
    Calls Try.prog 5 #[.slice p l.length cap, .int .i64 a1, .int .i64 a2, .int .i64 a3] w fun e w' => e = .returned (.bool true) ∧ Below w.heap.size w w' := by
  obtain ⟨u, hu, _⟩ := u64_nat a1
  obtain ⟨m, hm⟩ : ∃ m, m = u % 100 := ⟨_, rfl⟩
  have t1 : (u : Int).tmod 100 = (m : Int) := by rw [hm]; exact tmod_nat u 100
  obtain ⟨s, hs⟩ : ∃ s : Nat, s = m + 1 := ⟨_, rfl⟩
  have hs100 : s ≤ 100 := by omega
  have hs1 : 0 < s := by omega
  have k0 : IntKind.i64.wrap (m : Int) = m := IntWalk.i64_in _ (by omega)
  have k1 : IntKind.i64.wrap (1 + (m : Int)) = (s : Int) := by rw [show 1 + (m : Int) = (s : Int) by omega]; exact IntWalk.i64_in _ (by omega)
  have k2 : IntKind.u64.wrap (s : Int) = (s : Int) := by simp [IntKind.wrap, IntKind.signed, IntKind.bits]; omega
  obtain ⟨v, hv, _⟩ := u64_nat a2
  obtain ⟨a, ha⟩ : ∃ a, a = v % s := ⟨_, rfl⟩
  have t2 : (v : Int).tmod (s : Int) = (a : Int) := by rw [ha]; exact tmod_nat v s
  have has : a < s := by rw [ha]; exact Nat.mod_lt _ hs1
  obtain ⟨v', hv', _⟩ := u64_nat a3
  obtain ⟨b, hb⟩ : ∃ b, b = v' % s := ⟨_, rfl⟩
  have t3 : (v' : Int).tmod (s : Int) = (b : Int) := by rw [hb]; exact tmod_nat v' s
  have hbs : b < s := by rw [hb]; exact Nat.mod_lt _ hs1
  have k3 : IntKind.i64.wrap (a : Int) = a := IntWalk.i64_in _ (by omega)
  have k4 : IntKind.i64.wrap (b : Int) = b := IntWalk.i64_in _ (by omega)
  have hs0 : ¬ s = 0 := by omega
  have C1 := Lib.hid fun v l w (h : RU w v l) => may_any v l s w h (i64_of (by omega) (by omega))
  have C2 := Lib.hid (rmay_any _ l s w hr (i64_of (by omega) (by omega)))
  have C3 := Lib.hid fun w => dead_any s w (i64_of (by omega) (by omega))
  rw [deadT_pos (by omega)] at C3
  have R := Lib.hid hr
  clear hm ha hb hs hr
  go_enter Try.func5, Try.ntmps5
  cases hmay : mayT l s
  · rw [hmay] at C2
    clear hmay C1 C3
    go_wp2_with fail
    refine (C2.out).mono ?_; rintro e w' ⟨rfl, rfl⟩
    go_wp2_with fail
    refine (awake_any _).mono ?_; rintro e w' ⟨rfl, hb⟩
    go_wp2_with fail
    go_ret
    exact ⟨rfl, hb⟩
  · rw [hmay] at C2
    have MAY := Lib.hid (mayT_iff.1 hmay)
    clear hmay
    go_wp2_with fail
    refine (C2.out).mono ?_; rintro e w' ⟨rfl, rfl⟩
    go_wp2
    go_quiet (fail)
    have hw : Below w.heap.size w (w.drewN nq) := below_drewN (Below.refl _ _) _
    have HB := Lib.hid hw
    have R1 := Lib.hid (ru_below R.out hw)
    generalize w.drewN nq = W at *
    clear hw
    have N1 := Lib.hid (next_any _ l W R1.out)
    rcases nextT_is l with ⟨e, g⟩ | ⟨k, hk, e, g, gb⟩
    · rw [e] at N1
      have L1 := Lib.hid (left_any _ l W R1.out)
      rw [leftT_zero g] at L1
      clear g e
      go_wp2_with fail
      refine (N1.out).mono ?_; rintro e w' ⟨rfl, rfl⟩
      go_wp2_with fail
      refine (L1.out).mono ?_; rintro e w' ⟨rfl, rfl⟩
      go_wp2_with fail
      refine (awake_any _).mono ?_; rintro e w2 ⟨rfl, h2⟩
      have HB2 := Lib.hid (below_more HB.out h2)
      clear h2
      go_wp2
      go_ret
      exact ⟨rfl, HB2.out⟩
    · rw [e] at N1
      have G := Lib.hid g
      have GB := Lib.hid gb
      clear e g gb
      obtain ⟨x, hx⟩ : ∃ x, leftT (l.set k ((a : Int) + 1)) = x := ⟨_, rfl⟩
      obtain ⟨y, hy⟩ : ∃ y, leftT l = y := ⟨_, rfl⟩
      have F4 : y = x + 1 := by rw [← hy, ← hx]; exact leftT_set hk G.out (by omega)
      have hy100 : y ≤ 100 := by rw [← hy]; exact Nat.le_trans (leftT_le l) (by omega)
      have k5 : IntKind.i64.wrap ((y : Int) - 1) = (x : Int) := by rw [show ((y : Int) - 1) = (x : Int) by omega]; exact IntWalk.i64_in _ (by omega)
      have k6 : IntKind.i64.wrap ((s : Int) + (k : Int)) = (s : Int) + (k : Int) := IntWalk.i64_in _ (by omega)
      have k7 : IntKind.u64.wrap (a : Int) = (a : Int) := by simp [IntKind.wrap, IntKind.signed, IntKind.bits]; omega
      have k8 : IntKind.u64.wrap ((a : Int) + 1) = (a : Int) + 1 := by simp [IntKind.wrap, IntKind.signed, IntKind.bits]; omega
      have X := Lib.hid hx
      have Y := Lib.hid hy
      clear hy hy100
      have HL := Lib.hid (show ([] : List Int).length + l.length ≤ 1000000 by simp; omega)
      clear hx F4
      obtain ⟨W0, hW0⟩ : ∃ W0, W.alloc (.cells #[] 24) = W0 := ⟨_, rfl⟩
      have O0 := own_fresh_u W
      have B0 : Below W.heap.size W W0 := by rw [← hW0]; exact bal (Below.refl _ _)
      rw [hW0] at O0
      have HO0 := Lib.hid O0
      have HB0 := Lib.hid B0
      have R0 := Lib.hid (ru_below R1.out B0)
      clear O0 B0
      go_wp2_with fail
      refine (N1.out).mono ?_; rintro e w' ⟨rfl, rfl⟩
      go_wp2_with (at_builtin; refine list_app_u64 (o := ⟨some 55, _, _, _, _, _⟩) rfl (.tmp 53) (.tmp 54) rfl W.heap.size _ [] rfl HO0.out _ l rfl R0.out HL.out HB0.out.size ?_; intro vu w1 o1 g1 _)
      rename ¬l.length ≤ k => hbad
      clear hbad
      have B1 : Below W.heap.size W w1 := below_app_u HB0.out HB0.out.size HO0.out g1
      rw [List.nil_append] at o1
      obtain ⟨gu, cu, rfl, hgu, _⟩ := OwnU.block o1 (by omega)
      obtain ⟨cell1, free1⟩ := OwnU.cells o1 hk
      obtain ⟨w2, hw2⟩ : ∃ w2, w1.setCell ⟨gu, k, none⟩ (.int .u64 ((a : Int) + 1)) = w2 := ⟨_, rfl⟩
      have o2 := OwnU.stored o1 k ((a : Int) + 1)
      have B2 := B1.setCell (p := ⟨gu, k, none⟩) hgu (.int .u64 ((a : Int) + 1))
      rw [hw2] at o2 B2
      have RU2 := Lib.hid o2.ru
      have HB2 := Lib.hid B2
      have RT2 := Lib.hid (ru_below R1.out B2)
      clear o1 o2 B1 B2 g1 R0 HO0 HB0 hgu hW0
      obtain ⟨W3, hW3⟩ : ∃ W3, w2.alloc (.cells #[] 24) = W3 := ⟨_, rfl⟩
      have O3 := own_fresh_u w2
      have B3 : Below w2.heap.size w2 W3 := by rw [← hW3]; exact bal (Below.refl _ _)
      rw [hW3] at O3
      have HO3 := Lib.hid O3
      have HB3 := Lib.hid B3
      have R3 := Lib.hid (ru_below RT2.out B3)
      clear O3 B3
      go_simp
      go_wp2_with (at_builtin; refine list_app_u64 (o := ⟨some 64, _, _, _, _, _⟩) rfl (.tmp 62) (.tmp 63) rfl w2.heap.size _ [] rfl HO3.out _ l rfl R3.out HL.out HB3.out.size ?_; intro vd w4 o4 g4 _)
      have B4 : Below w2.heap.size w2 w4 := below_app_u HB3.out HB3.out.size HO3.out g4
      rw [List.nil_append] at o4
      obtain ⟨gd, cd, rfl, hgd, _⟩ := OwnU.block o4 (by omega)
      obtain ⟨cell4, free4⟩ := OwnU.cells o4 hk
      obtain ⟨w5, hw5⟩ : ∃ w5, w4.setCell ⟨gd, k, none⟩ (.int .u64 ((s : Int) + 1)) = w5 := ⟨_, rfl⟩
      have o5 := OwnU.stored o4 k ((s : Int) + 1)
      have B5 := B4.setCell (p := ⟨gd, k, none⟩) hgd (.int .u64 ((s : Int) + 1))
      rw [hw5] at o5 B5
      have U := Lib.hid (ru_below RU2.out B5)
      have D := Lib.hid o5.ru
      have T := Lib.hid (ru_below RT2.out B5)
      have HB5 := Lib.hid (below_more (below_more HB.out HB2.out) B5)
      clear o4 o5 B4 B5 g4 R3 HO3 HB3 hgd hW3 RU2 RT2 HB2
      have Z := Lib.hid (Below.refl w5.heap.size w5)
      have D1 := Lib.hid (C1.out _ _ w5 U.out)
      have D2 := Lib.hid (C1.out _ _ w5 D.out)
      rw [mayT_set MAY.out hk G.out GB.out (by omega)] at D1 D2
      have D3 := Lib.hid fun w' h => place_on U.out (by rw [List.length_set]; omega) (placeT_set_own MAY.out hk G.out (a := (a : Int)) (by omega) (by omega)) (w' := w') h
      have D4 := Lib.hid fun w' h => left_on U.out (x := (x : Int)) (by rw [X.out]) (w' := w') h
      have D5 := Lib.hid fun w' h => left_on T.out (x := (y : Int)) (by rw [Y.out]) (w' := w') h
      obtain ⟨z, hz⟩ : ∃ z, placeT l s b = z := ⟨_, rfl⟩
      have D7 := Lib.hid fun w' h => place_on T.out (by omega) hz (w' := w') h
      have D8 := Lib.hid fun w' h => place_on D.out (by rw [List.length_set]; omega) ((placeT_set_other hk G.out (b := (b : Int)) (by omega) (by omega)).trans hz) (w' := w') h
      have D6 := Lib.hid fun (hab : ¬ a = b) w' h => place_on U.out (by rw [List.length_set]; omega) ((placeT_set_other hk G.out (b := (b : Int)) (by omega) (by omega)).trans hz) (w' := w') h
      clear hz
      go_wp2_with fail
      refine (C3.out _).mono ?_; rintro e w' ⟨rfl, rfl⟩
      go_wp2_with fail
      go_simp
      go_wp2_with fail
      refine (D1.out).mono ?_; rintro e w' ⟨rfl, rfl⟩
      go_wp2_with fail
      refine (D2.out).mono ?_; rintro e w' ⟨rfl, rfl⟩
      go_wp2_with fail
      refine (D3.out _ Z.out).mono ?_; rintro e w6 ⟨rfl, h6⟩
      have Z6 := Lib.hid h6
      clear h6
      go_wp2_with fail
      refine (D4.out _ Z6.out).mono ?_; rintro e w' ⟨rfl, rfl⟩
      go_wp2_with fail
      refine (D5.out _ Z6.out).mono ?_; rintro e w' ⟨rfl, rfl⟩
      have E : a = b ∨ ((a : Int) == (b : Int)) = false ∧ ¬ a = b := by
        by_cases h : a = b
        · exact .inl h
        · exact .inr ⟨by simp; omega, h⟩
      rcases E with rfl | ⟨q1, q2⟩
      · go_wp2_with fail
        refine (D8.out _ Z6.out).mono ?_; rintro e w7 ⟨rfl, h7⟩
        have Z7 := Lib.hid h7
        clear h7
        go_wp2_with fail
        refine (D7.out _ Z7.out).mono ?_; rintro e w8 ⟨rfl, h8⟩
        have Z8 := Lib.hid (below_more HB5.out h8)
        clear h8
        go_wp2_with fail
        refine (awake_any _).mono ?_; rintro e w9 ⟨rfl, h9⟩
        have Z9 := Lib.hid (below_more Z8.out h9)
        clear h9
        go_wp2
        go_ret
        exact ⟨rfl, Z9.out⟩
      · have D6' := Lib.hid (D6.out q2)
        clear q2 D6
        go_wp2_with fail
        refine (D6'.out _ Z6.out).mono ?_; rintro e w7 ⟨rfl, h7⟩
        have Z7 := Lib.hid h7
        clear h7
        go_wp2_with fail
        refine (D7.out _ Z7.out).mono ?_; rintro e w8 ⟨rfl, h8⟩
        have Z8 := Lib.hid h8
        clear h8
        go_wp2_with fail
        refine (D8.out _ Z8.out).mono ?_; rintro e w9 ⟨rfl, h9⟩
        have Z9 := Lib.hid h9
        clear h9
        go_wp2_with fail
        refine (D7.out _ Z9.out).mono ?_; rintro e w10 ⟨rfl, h10⟩
        have Z10 := Lib.hid (below_more HB5.out h10)
        clear h10
        go_wp2_with fail
        refine (awake_any _).mono ?_; rintro e w11 ⟨rfl, h11⟩
        have Z11 := Lib.hid (below_more Z10.out h11)
        clear h11
        go_wp2
        go_ret
        exact ⟨rfl, Z11.out⟩

theorem walk (l0 : List Int) (v0 : Value) (a1 a2 a3 : Int) (w : World) (w0 : IntsIn .u64 w v0 l0) (_ : (Lit.int .i64 a1).wf = true) (_ : (Lit.int .i64 a2).wf = true) (_ : (Lit.int .i64 a3).wf = true) :
    Calls Try.prog 5 #[v0, .int .i64 a1, .int .i64 a2, .int .i64 a3] w fun e w' => e = .returned (.bool true) ∧ Below w.heap.size w w' := by
  have hr := ru_in w0
  obtain ⟨p, cap, rfl, _⟩ := w0
  by_cases h : 100 < l0.length
  · exact far p _ cap a1 a2 a3 w h
  · exact near l0 p cap a1 a2 a3 w hr h

set_option maxRecDepth 100000 in
theorem lifted (os : Os) (started : os.Started) (H : Type) (enc : TypeId × Value → H) :
    ReturnsInHanded {} Try.checked os 5 .any (Rows.spareNextSpec.pre6 enc Try.prog Try.f5 Rows.spareNextRow.domain false) (Rows.spareNextSpec.post enc Try.prog Try.f5 false true false false) := by
  refine returnsInHanded_of_change (C := Try.checked) own started (by kernel_rfl) Try.func5
    (ChangeSpec.witness6 (enc := enc) (C := Try.checked) false ⟨#[], #[.slice none 0 0, .int .i64 0, .int .i64 0, .int .i64 0], []⟩ 8 (by kernel_rfl) (by kernel_rfl) (by kernel_rfl) (by kernel_rfl)) ?_
  intro W base args ds gs before hval0 hW hcnd _
  have hval : ∀ (j : Nat) t v, Try.f5.params[j]? = some t → args[j]? = some v → Value.okWide Try.prog W .any base t v := hval0
  have hW' := hW
  have hlt := hW.lt
  obtain ⟨p, q, hA0, hV, hpq, hfz, hnd⟩ := hW
  have hA : DataW.TrodAll enc Try.prog W 0 (fun _ => true) true Try.f5.params.toList args.toList ds p := hA0
  rw [Try.params5] at hA hval
  obtain ⟨v0, vs0, d0, ds0, p0, q0, hargs, rfl, hp, h0, r0⟩ := trodAll_cons hA
  obtain ⟨v1, vs1, d1, ds1, p1, q1, rfl, rfl, rfl, h1, r1⟩ := trodAll_cons r0
  obtain ⟨v2, vs2, d2, ds2, p2, q2, rfl, rfl, rfl, h2, r2⟩ := trodAll_cons r1
  obtain ⟨v3, vs3, d3, ds3, p3, q3, rfl, rfl, rfl, h3, r3⟩ := trodAll_cons r2
  obtain ⟨rfl, rfl, rfl⟩ := trodAll_nil r3
  obtain rfl : args = #[v0, v1, v2, v3] := by cases args; simp_all
  obtain ⟨rfl, rfl⟩ := trodVars_none hV
  have hlt' : ∀ x ∈ before, x.block < W.heap.size := fun x hx => hlt x hx
  obtain ⟨l0, w0⟩ := ints_in Try.underlying22 Try.underlying24 (by kernel_rfl) (hval 0 22 v0 rfl rfl) (fun x hx => hlt' x (by rw [hpq, hp]; simp [hx])) h0
  obtain ⟨a1, rfl, rfl, rfl, w1⟩ := open_int Try.underlying3 (hval 1 3 v1 rfl rfl) h1
  obtain ⟨a2, rfl, rfl, rfl, w2⟩ := open_int Try.underlying3 (hval 2 3 v2 rfl rfl) h2
  obtain ⟨a3, rfl, rfl, rfl, w3⟩ := open_int Try.underlying3 (hval 3 3 v3 rfl rfl) h3
  refine (walk l0 v0 a1 a2 a3 W w0 w1 w2 w3).mono fun e W' ⟨he, hb⟩ => ?_
  subst he
  exact ⟨_, rfl, law_post rfl (by kernel_rfl) hW' (by rw [Try.params5]; intro t ht; simp only [List.mem_cons, List.not_mem_nil, or_false] at ht; (repeat' (first | (rcases ht with rfl | ht) | subst ht)) <;> exact ⟨by kernel_rfl, of_decide_eq_true (by kernel_rfl)⟩) rfl hb⟩

theorem over : Rows.spareNextRow.holds Try.pinned (OpenSpec.ofChange Rows.spareNextSpec) :=
  OpenClaim.holds_of_wide 5 Try.f5 rfl rfl rfl rfl rfl rfl rfl ⟨rfl, rfl, rfl, rfl, rfl⟩ rfl rfl rfl rfl rfl (by kernel_rfl) Try.func5 (by kernel_rfl)
    (of_decide_eq_true (by kernel_rfl)) (by unfold Func.isWrapper; first | (rw [if_pos (by decide +kernel)]; kernel_rfl) | (rw [if_neg (by decide +kernel)]; exact ⟨rfl, rfl⟩))
    (fun os started H enc _ => lifted os started H enc)

theorem proved : Rows.SpareNextSaid := over
end Go.Proofs.Ytjfedklpmbnjcaa.spareNext
