/-
  No two slots have one line: each has its own, itself or a spare one that says so; the dead ones are nobody's. No conditions.
-/
import Derived.Test.YtjfedklpmbnjcaaSpw
import Derived.Deep.QuietTactic
namespace Go.Proofs.Ytjfedklpmbnjcaa.spareApart
open Go.Proofs.Ytjfedklpmbnjcaa Go.ChangeShapes Go.WideShapes Go.ChangeAt Go.RowKit

theorem far (p : Option Addr) (n cap : Nat) (a1 a2 a3 : Int) (w : World) (h : 100 < n) :
    Calls Try.prog 4 #[.slice p n cap, .int .i64 a1, .int .i64 a2, .int .i64 a3] w fun e w' => e = .returned (.bool true) ∧ Below w.heap.size w w' := by
  obtain ⟨u, hu, _⟩ := u64_nat a1
  obtain ⟨m, t1⟩ : ∃ m : Nat, (u : Int).tmod 100 = (m : Int) := ⟨u % 100, tmod_nat u 100⟩
  go_enter Try.func4, Try.ntmps4
  go_wp2_with fail
  refine (awake_any _).mono ?_; rintro e w' ⟨rfl, hb⟩
  go_wp2_with fail
  go_ret
  exact ⟨rfl, hb⟩

/-- one slot's line against another's -/
theorem two (l : List Int) (s a b : Nat) (ha : a < s) (hb : b < s) : ∃ x y : Int, placeT l s a = x ∧ placeT l s b = y ∧ (a = b → x = y) ∧ (¬ a = b → ¬ x = y) ∧ ¬ x < 0 ∧ ¬ (s : Int) + (l.length : Int) ≤ x ∧
    ((x = a ∧ ∀ k, k < l.length → ¬ l.getD k 0 = (a : Int) + 1) ∨ ∃ k : Nat, k < l.length ∧ x = (s : Int) + (k : Int) ∧ l.getD k 0 = (a : Int) + 1) := by
  refine ⟨_, _, rfl, rfl, ?_, ?_, ?_, ?_, ?_⟩
  · rintro rfl; rfl
  · intro hab
    rw [placeT, placeT, if_pos (by omega), if_pos (by omega)]
    rcases plT_is l s a l.length with ⟨e1, g1⟩ | ⟨k1, h1, e1, g1⟩ <;> rcases plT_is l s b l.length with ⟨e2, g2⟩ | ⟨k2, h2, e2, g2⟩ <;> rw [e1, e2] <;> try omega
    intro e
    obtain rfl : k1 = k2 := by omega
    omega
  all_goals rw [placeT, if_pos (by omega)]
  · rcases plT_is l s a l.length with ⟨e1, g1⟩ | ⟨k1, h1, e1, g1⟩ <;> rw [e1] <;> omega
  · rcases plT_is l s a l.length with ⟨e1, g1⟩ | ⟨k1, h1, e1, g1⟩ <;> rw [e1] <;> omega
  · rcases plT_is l s a l.length with ⟨e1, g1⟩ | ⟨k1, h1, e1, g1⟩
    · exact .inl ⟨e1, g1⟩
    · exact .inr ⟨k1, h1, e1, g1⟩

set_option maxHeartbeats 2000000 in
theorem near (l : List Int) (p : Option Addr) (cap : Nat) (a1 a2 a3 : Int) (w : World) (hr : RU w (.slice p l.length cap) l) (hl : ¬ 100 < l.length) :
    Calls Try.prog 4 #[.slice p l.length cap, .int .i64 a1, .int .i64 a2, .int .i64 a3] w fun e w' => e = .returned (.bool true) ∧ Below w.heap.size w w' := by
  obtain ⟨u, hu, _⟩ := u64_nat a1
  obtain ⟨m, hm⟩ : ∃ m, m = u % 100 := ⟨_, rfl⟩
  have t1 : (u : Int).tmod 100 = (m : Int) := by rw [hm]; exact tmod_nat u 100
  obtain ⟨s, hs⟩ : ∃ s : Nat, s = m + 1 := ⟨_, rfl⟩
  have hs100 : s ≤ 100 := by omega
  have hs1 : 0 < s := by omega
  have k0 : IntKind.i64.wrap (m : Int) = m := IntWalk.i64_in _ (by omega)
  have k1 : IntKind.i64.wrap (1 + (m : Int)) = (s : Int) := by rw [show 1 + (m : Int) = (s : Int) by omega]; exact IntWalk.i64_in _ (by omega)
  have k2 : IntKind.u64.wrap (s : Int) = (s : Int) := by simp [IntKind.wrap, IntKind.signed, IntKind.bits]; omega
  obtain ⟨v, hv, _⟩ := u64_nat a2
  obtain ⟨a, ha⟩ : ∃ a, a = v % s := ⟨_, rfl⟩
  have t2 : (v : Int).tmod (s : Int) = (a : Int) := by rw [ha]; exact tmod_nat v s
  have has : a < s := by rw [ha]; exact Nat.mod_lt _ hs1
  obtain ⟨v', hv', _⟩ := u64_nat a3
  obtain ⟨b, hb⟩ : ∃ b, b = v' % s := ⟨_, rfl⟩
  have t3 : (v' : Int).tmod (s : Int) = (b : Int) := by rw [hb]; exact tmod_nat v' s
  have hbs : b < s := by rw [hb]; exact Nat.mod_lt _ hs1
  have k3 : IntKind.i64.wrap (a : Int) = a := IntWalk.i64_in _ (by omega)
  have k4 : IntKind.i64.wrap (b : Int) = b := IntWalk.i64_in _ (by omega)
  have hs0 : ¬ s = 0 := by omega
  have C1 := Lib.hid fun w (h : RU w (.slice p l.length cap) l) => may_any _ l s w h (i64_of (by omega) (by omega))
  have C2 := Lib.hid fun w (h : RU w (.slice p l.length cap) l) => rmay_any _ l s w h (i64_of (by omega) (by omega))
  have R := Lib.hid hr
  obtain ⟨x, y, X, Y, p1, p2, p3, p4, p5⟩ := two l s a b has hbs
  clear hm ha hb hs hr
  go_enter Try.func4, Try.ntmps4
  cases hmay : mayT l s
  · rw [hmay] at C1 C2
    clear hmay X Y p1 p2 p3 p4 p5
    go_wp2_with fail
    refine (C2.out _ R.out).mono ?_; rintro e w' ⟨rfl, rfl⟩
    go_wp2_with fail
    refine (C1.out _ R.out).mono ?_; rintro e w' ⟨rfl, rfl⟩
    go_wp2_with fail
    refine (awake_any _).mono ?_; rintro e w' ⟨rfl, hb⟩
    go_wp2_with fail
    go_ret
    exact ⟨rfl, hb⟩
  · rw [hmay] at C1 C2
    have C3 := Lib.hid fun w (h : RU w (.slice p l.length cap) l) => place_any _ l s a w h (by omega)
    have C4 := Lib.hid fun w (h : RU w (.slice p l.length cap) l) => place_any _ l s b w h (by omega)
    rw [X] at C3
    rw [Y] at C4
    clear hmay X Y
    go_wp2_with fail
    refine (C2.out _ R.out).mono ?_; rintro e w' ⟨rfl, rfl⟩
    go_wp2_with fail
    refine (C1.out _ R.out).mono ?_; rintro e w' ⟨rfl, rfl⟩
    go_wp2
    go_quiet (fail)
    have hw : Below w.heap.size w (w.drewN nq) := below_drewN (Below.refl _ _) _
    have HB := Lib.hid hw
    have R1 := Lib.hid (ru_below R.out hw)
    generalize w.drewN nq = W at *
    clear hw
    go_wp2_with fail
    refine (C3.out W R1.out).mono ?_; rintro e w1 ⟨rfl, h1⟩
    have R2 := Lib.hid (ru_below R1.out h1)
    have B1 := Lib.hid (below_more HB.out h1)
    clear h1
    go_wp2_with fail
    refine (C4.out w1 R2.out).mono ?_; rintro e w2 ⟨rfl, h2⟩
    have R3 := Lib.hid (ru_below R2.out h2)
    have B2 := Lib.hid (below_more B1.out h2)
    clear h2
    have k5 : IntKind.i64.wrap ((s : Int) + (l.length : Int)) = (s : Int) + (l.length : Int) := IntWalk.i64_in _ (by omega)
    have k6 : IntKind.u64.wrap (a : Int) = a := by simp [IntKind.wrap, IntKind.signed, IntKind.bits]; omega
    have k7 : IntKind.u64.wrap ((a : Int) + 1) = (a : Int) + 1 := by simp [IntKind.wrap, IntKind.signed, IntKind.bits]; omega
    have P5 := Lib.hid p5
    have E : (a = b ∧ x = y) ∨ (((a : Int) == (b : Int)) = false ∧ (x == y) = false) := by
      by_cases h : a = b
      · exact .inl ⟨h, p1 h⟩
      · exact .inr ⟨by simp; omega, by simpa using p2 h⟩
    clear p1 p2 p5
    rcases E with ⟨rfl, rfl⟩ | ⟨q1, q2⟩
    · rcases P5.out with ⟨rfl, g⟩ | ⟨k, hk, rfl, g⟩
      · have G := Lib.hid g
        clear g
        have hlt : ¬ (s : Int) ≤ (a : Int) := by omega
        go_wp2
        go_loop [94] (fun i => ∃ k : Nat, k ≤ l.length ∧ i = .int .i64 k) (fun i => l.length - (intOf i).toNat)
        case atStart => exact ⟨0, Nat.zero_le _, rfl⟩
        case round =>
          obtain ⟨k, hk, rfl⟩ := hrel
          by_cases hkl : k < l.length
          · obtain ⟨c0, off, e, _, hc⟩ := ru_some R3.out (by omega)
            subst e
            have hcell := hc k hkl
            have hne := G.out k hkl
            generalize l.getD k 0 = z at *
            clear hc
            go_wp2
            go_round
            case rel => exact ⟨k + 1, by omega, by go_num⟩
            case measure => simp [intOf]; omega
          · obtain rfl : k = l.length := by omega
            go_wp2_with fail
            refine (awake_any _).mono ?_; rintro e w3 ⟨rfl, h3⟩
            have B3 := Lib.hid (below_more B2.out h3)
            clear h3
            go_wp2
            go_ret
            exact ⟨rfl, B3.out⟩
      · obtain ⟨c0, off, e, _, hc⟩ := ru_some R3.out (by omega)
        subst e
        have hcell := hc k hk
        rw [g] at hcell
        clear hc g
        have k8 : IntKind.i64.wrap ((s : Int) + (k : Int) - (s : Int)) = (k : Int) := by rw [show (s : Int) + (k : Int) - (s : Int) = (k : Int) by omega]; exact IntWalk.i64_in _ (by omega)
        go_wp2_with fail
        refine (awake_any _).mono ?_; rintro e w3 ⟨rfl, h3⟩
        have B3 := Lib.hid (below_more B2.out h3)
        clear h3
        go_wp2
        go_ret
        exact ⟨rfl, B3.out⟩
    · rcases P5.out with ⟨rfl, g⟩ | ⟨k, hk, rfl, g⟩
      · have G := Lib.hid g
        clear g
        have hlt : ¬ (s : Int) ≤ (a : Int) := by omega
        go_wp2
        go_loop [94] (fun i => ∃ k : Nat, k ≤ l.length ∧ i = .int .i64 k) (fun i => l.length - (intOf i).toNat)
        case atStart => exact ⟨0, Nat.zero_le _, rfl⟩
        case round =>
          obtain ⟨k, hk, rfl⟩ := hrel
          by_cases hkl : k < l.length
          · obtain ⟨c0, off, e, _, hc⟩ := ru_some R3.out (by omega)
            subst e
            have hcell := hc k hkl
            have hne := G.out k hkl
            generalize l.getD k 0 = z at *
            clear hc
            go_wp2
            go_round
            case rel => exact ⟨k + 1, by omega, by go_num⟩
            case measure => simp [intOf]; omega
          · obtain rfl : k = l.length := by omega
            go_wp2_with fail
            refine (awake_any _).mono ?_; rintro e w3 ⟨rfl, h3⟩
            have B3 := Lib.hid (below_more B2.out h3)
            clear h3
            go_wp2
            go_ret
            exact ⟨rfl, B3.out⟩
      · obtain ⟨c0, off, e, _, hc⟩ := ru_some R3.out (by omega)
        subst e
        have hcell := hc k hk
        rw [g] at hcell
        clear hc g
        have k8 : IntKind.i64.wrap ((s : Int) + (k : Int) - (s : Int)) = (k : Int) := by rw [show (s : Int) + (k : Int) - (s : Int) = (k : Int) by omega]; exact IntWalk.i64_in _ (by omega)
        go_wp2_with fail
        refine (awake_any _).mono ?_; rintro e w3 ⟨rfl, h3⟩
        have B3 := Lib.hid (below_more B2.out h3)
        clear h3
        go_wp2
        go_ret
        exact ⟨rfl, B3.out⟩

theorem walk (l0 : List Int) (v0 : Value) (a1 a2 a3 : Int) (w : World) (w0 : IntsIn .u64 w v0 l0) (_ : (Lit.int .i64 a1).wf = true) (_ : (Lit.int .i64 a2).wf = true) (_ : (Lit.int .i64 a3).wf = true) :
    Calls Try.prog 4 #[v0, .int .i64 a1, .int .i64 a2, .int .i64 a3] w fun e w' => e = .returned (.bool true) ∧ Below w.heap.size w w' := by
  have hr := ru_in w0
  obtain ⟨p, cap, rfl, _⟩ := w0
  by_cases h : 100 < l0.length
  · exact far p _ cap a1 a2 a3 w h
  · exact near l0 p cap a1 a2 a3 w hr h

set_option maxRecDepth 100000 in
theorem lifted (os : Os) (started : os.Started) (H : Type) (enc : TypeId × Value → H) :
    ReturnsInHanded {} Try.checked os 4 .any (Rows.spareApartSpec.pre6 enc Try.prog Try.f4 Rows.spareApartRow.domain false) (Rows.spareApartSpec.post enc Try.prog Try.f4 false true false false) := by
  refine returnsInHanded_of_change (C := Try.checked) own started (by kernel_rfl) Try.func4
    (ChangeSpec.witness6 (enc := enc) (C := Try.checked) false ⟨#[], #[.slice none 0 0, .int .i64 0, .int .i64 0, .int .i64 0], []⟩ 8 (by kernel_rfl) (by kernel_rfl) (by kernel_rfl) (by kernel_rfl)) ?_
  intro W base args ds gs before hval0 hW hcnd _
  have hval : ∀ (j : Nat) t v, Try.f4.params[j]? = some t → args[j]? = some v → Value.okWide Try.prog W .any base t v := hval0
  have hW' := hW
  have hlt := hW.lt
  obtain ⟨p, q, hA0, hV, hpq, hfz, hnd⟩ := hW
  have hA : DataW.TrodAll enc Try.prog W 0 (fun _ => true) true Try.f4.params.toList args.toList ds p := hA0
  rw [Try.params4] at hA hval
  obtain ⟨v0, vs0, d0, ds0, p0, q0, hargs, rfl, hp, h0, r0⟩ := trodAll_cons hA
  obtain ⟨v1, vs1, d1, ds1, p1, q1, rfl, rfl, rfl, h1, r1⟩ := trodAll_cons r0
  obtain ⟨v2, vs2, d2, ds2, p2, q2, rfl, rfl, rfl, h2, r2⟩ := trodAll_cons r1
  obtain ⟨v3, vs3, d3, ds3, p3, q3, rfl, rfl, rfl, h3, r3⟩ := trodAll_cons r2
  obtain ⟨rfl, rfl, rfl⟩ := trodAll_nil r3
  obtain rfl : args = #[v0, v1, v2, v3] := by cases args; simp_all
  obtain ⟨rfl, rfl⟩ := trodVars_none hV
  have hlt' : ∀ x ∈ before, x.block < W.heap.size := fun x hx => hlt x hx
  obtain ⟨l0, w0⟩ := ints_in Try.underlying22 Try.underlying24 (by kernel_rfl) (hval 0 22 v0 rfl rfl) (fun x hx => hlt' x (by rw [hpq, hp]; simp [hx])) h0
  obtain ⟨a1, rfl, rfl, rfl, w1⟩ := open_int Try.underlying3 (hval 1 3 v1 rfl rfl) h1
  obtain ⟨a2, rfl, rfl, rfl, w2⟩ := open_int Try.underlying3 (hval 2 3 v2 rfl rfl) h2
  obtain ⟨a3, rfl, rfl, rfl, w3⟩ := open_int Try.underlying3 (hval 3 3 v3 rfl rfl) h3
  refine (walk l0 v0 a1 a2 a3 W w0 w1 w2 w3).mono fun e W' ⟨he, hb⟩ => ?_
  subst he
  exact ⟨_, rfl, law_post rfl (by kernel_rfl) hW' (by rw [Try.params4]; intro t ht; simp only [List.mem_cons, List.not_mem_nil, or_false] at ht; (repeat' (first | (rcases ht with rfl | ht) | subst ht)) <;> exact ⟨by kernel_rfl, of_decide_eq_true (by kernel_rfl)⟩) rfl hb⟩

theorem over : Rows.spareApartRow.holds Try.pinned (OpenSpec.ofChange Rows.spareApartSpec) :=
  OpenClaim.holds_of_wide 4 Try.f4 rfl rfl rfl rfl rfl rfl rfl ⟨rfl, rfl, rfl, rfl, rfl⟩ rfl rfl rfl rfl rfl (by kernel_rfl) Try.func4 (by kernel_rfl)
    (of_decide_eq_true (by kernel_rfl)) (by unfold Func.isWrapper; first | (rw [if_pos (by decide +kernel)]; kernel_rfl) | (rw [if_neg (by decide +kernel)]; exact ⟨rfl, rfl⟩))
    (fun os started H enc _ => lifted os started H enc)

theorem proved : Rows.SpareApartSaid := over
end Go.Proofs.Ytjfedklpmbnjcaa.spareApart
