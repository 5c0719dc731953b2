/-
  A word beyond the dead one's, or one behind a nought, makes no table. No conditions.
-/
import Derived.Test.YtjfedklpmbnjcaaSpw
namespace Go.Proofs.Ytjfedklpmbnjcaa.spareSpoilt
open Go.Proofs.Ytjfedklpmbnjcaa Go.ChangeShapes Go.WideShapes Go.ChangeAt Go.RowKit

theorem far (p : Option Addr) (n cap : Nat) (a1 a2 a3 : Int) (w : World) (h : n < 2 ∨ 60 < n) :
    Calls Try.prog 7 #[.slice p n cap, .int .i64 a1, .int .i64 a2, .int .u64 a3] w fun e w' => e = .returned (.bool true) ∧ Below w.heap.size w w' := by
  obtain ⟨u, hu, _⟩ := u64_nat a1
  obtain ⟨m, t1⟩ : ∃ m : Nat, (u : Int).tmod 60 = (m : Int) := ⟨u % 60, tmod_nat u 60⟩
  by_cases h1 : n < 2
  · clear h
    go_enter Try.func7, Try.ntmps7
    go_wp2_with fail
    refine (awake_any _).mono ?_; rintro e w' ⟨rfl, hb⟩
    go_wp2_with fail
    go_ret
    exact ⟨rfl, hb⟩
  · have h2 : 60 < n := by omega
    clear h
    go_enter Try.func7, Try.ntmps7
    go_wp2_with fail
    refine (awake_any _).mono ?_; rintro e w' ⟨rfl, hb⟩
    go_wp2_with fail
    go_ret
    exact ⟨rfl, hb⟩

theorem beyond {l : List Int} {s X : Int} {k : Nat} (hk : k < l.length) (hX : s + 1 < X) : mayT (l.set k X) s = false := by
  refine mayT_bad (k := k) (by simpa using hk) fun h => ?_
  have := h.1
  rw [getD_set hk, if_pos rfl] at this
  omega
theorem getD_zeros (n k : Nat) : (List.replicate n (0 : Int)).getD k 0 = 0 := by
  rw [List.getD_eq_getElem?_getD, List.getElem?_replicate]; split <;> rfl
theorem behind {n : Nat} {s : Int} {j : Nat} (hj : j < n) (h0 : 0 < j) : mayT ((List.replicate n (0 : Int)).set j 1) s = false := by
  refine mayT_bad (k := j) (by simpa using hj) fun h => h.2 ⟨h0, ?_, ?_⟩
  · rw [getD_set (by simpa using hj), if_pos rfl]; decide
  · rw [getD_set (by simpa using hj), if_neg (by omega)]; exact getD_zeros _ _

set_option maxHeartbeats 2000000 in
theorem near (l : List Int) (p : Option Addr) (cap : Nat) (a1 a2 : Int) (q : Nat) (w : World) (hr : RU w (.slice p l.length cap) l) (h2 : ¬ l.length < 2) (h60 : ¬ 60 < l.length) :
    Calls Try.prog 7 #[.slice p l.length cap, .int .i64 a1, .int .i64 a2, .int .u64 q] w fun e w' => e = .returned (.bool true) ∧ Below w.heap.size w w' := by
  obtain ⟨u, hu, _⟩ := u64_nat a1
  obtain ⟨m, hm⟩ : ∃ m, m = u % 60 := ⟨_, rfl⟩
  have t1 : (u : Int).tmod 60 = (m : Int) := by rw [hm]; exact tmod_nat u 60
  obtain ⟨s, hs⟩ : ∃ s : Nat, s = m + 1 := ⟨_, rfl⟩
  have k0 : IntKind.i64.wrap (m : Int) = m := IntWalk.i64_in _ (by omega)
  have k1 : IntKind.i64.wrap (1 + (m : Int)) = (s : Int) := by rw [show 1 + (m : Int) = (s : Int) by omega]; exact IntWalk.i64_in _ (by omega)
  obtain ⟨v, hv, _⟩ := u64_nat a2
  obtain ⟨k, hk⟩ : ∃ k, k = v % l.length := ⟨_, rfl⟩
  have k2 : IntKind.u64.wrap (l.length : Int) = (l.length : Int) := by simp [IntKind.wrap, IntKind.signed, IntKind.bits]; omega
  have t2 : (v : Int).tmod (l.length : Int) = (k : Int) := by rw [hk]; exact tmod_nat v l.length
  have hkl : k < l.length := by rw [hk]; exact Nat.mod_lt _ (by omega)
  have k3 : IntKind.i64.wrap (k : Int) = k := IntWalk.i64_in _ (by omega)
  have hl0 : ¬ l.length = 0 := by omega
  obtain ⟨r, hr3⟩ : ∃ r, r = q % 1000 := ⟨_, rfl⟩
  have t3 : (q : Int).tmod 1000 = (r : Int) := by rw [hr3]; exact tmod_nat q 1000
  have C1 := Lib.hid fun v l w (h : RU w v l) => may_any v l s w h (i64_of (by omega) (by omega))
  have C2 := Lib.hid fun w (h : RU w (.slice p l.length cap) l) => rmay_any _ l s w h (i64_of (by omega) (by omega))
  have C3 := Lib.hid fun w => dead_any s w (i64_of (by omega) (by omega))
  rw [deadT_pos (by omega)] at C3
  obtain ⟨D, hD⟩ : ∃ D : Int, (s : Int) + 1 = D := ⟨_, rfl⟩
  rw [hD] at C3
  obtain ⟨E, hE⟩ : ∃ E : Int, D + 1 = E := ⟨_, rfl⟩
  have k4 : IntKind.u64.wrap (D + 1) = E := by rw [hE]; simp [IntKind.wrap, IntKind.signed, IntKind.bits]; omega
  obtain ⟨X, hX⟩ : ∃ X : Int, E + r = X := ⟨_, rfl⟩
  have k5 : IntKind.u64.wrap (E + (r : Int)) = X := by rw [hX]; simp [IntKind.wrap, IntKind.signed, IntKind.bits]; omega
  obtain ⟨L, hL⟩ : ∃ L : Nat, L = l.length - 1 := ⟨_, rfl⟩
  have k6 : IntKind.i64.wrap ((l.length : Int) - 1) = (L : Int) := by rw [show (l.length : Int) - 1 = (L : Int) by omega]; exact IntWalk.i64_in _ (by omega)
  have hL0 : ¬ L = 0 := by omega
  obtain ⟨j, hj⟩ : ∃ j, j = k % L := ⟨_, rfl⟩
  have t4 : (k : Int).tmod (L : Int) = (j : Int) := by rw [hj]; exact tmod_nat k L
  have hjL : j < L := by rw [hj]; exact Nat.mod_lt _ (by omega)
  obtain ⟨J, hJ⟩ : ∃ J : Nat, J = j + 1 := ⟨_, rfl⟩
  have k7 : IntKind.i64.wrap (1 + (j : Int)) = (J : Int) := by rw [show 1 + (j : Int) = (J : Int) by omega]; exact IntWalk.i64_in _ (by omega)
  have k8 : IntKind.i64.wrap (j : Int) = (j : Int) := IntWalk.i64_in _ (by omega)
  have hJl : J < l.length := by omega
  have F1 := Lib.hid (beyond (l := l) (s := s) (X := X) hkl (by omega))
  have F2 := Lib.hid (behind (n := l.length) (s := s) hJl (by omega))
  have hmk := run_make_row' (P := Try.prog) 22 24 (.int .u64 0) 8 Try.underlying22 info_u64 rfl .i64 .i64 l.length (by omega) (by omega)
  have HM := Lib.hid (show l.length ≤ maxLen by unfold maxLen; omega)
  have HL := Lib.hid (show ([] : List Int).length + l.length ≤ 1000000 by simp; omega)
  have R := Lib.hid hr
  clear hm hk hr3 hs hD hE hX hL hj hJ hr
  cases hmay : mayT l s
  · have M := Lib.hid (C2.out w R.out)
    rw [hmay] at M
    clear C1 C2 C3 hmay
    go_enter Try.func7, Try.ntmps7
    go_wp2_with fail
    refine (M.out).mono ?_; rintro e w' ⟨rfl, rfl⟩
    go_wp2_with fail
    refine (awake_any _).mono ?_; rintro e w' ⟨rfl, hb⟩
    go_wp2_with fail
    go_ret
    exact ⟨rfl, hb⟩
  · have M := Lib.hid (C2.out w R.out)
    have MY := Lib.hid hmay
    rw [hmay] at M
    clear C2 hmay
    obtain ⟨W, hW⟩ : ∃ W, w.alloc (.cells #[] 24) = W := ⟨_, rfl⟩
    have O0 := own_fresh_u w
    have B0 : Below w.heap.size w W := by rw [← hW]; exact bal (Below.refl _ _)
    rw [hW] at O0
    have HO0 := Lib.hid O0
    have HB0 := Lib.hid B0
    have R0 := Lib.hid (ru_below R.out B0)
    clear O0 B0
    go_enter Try.func7, Try.ntmps7
    go_wp2_with fail
    refine (M.out).mono ?_; rintro e w' ⟨rfl, rfl⟩
    go_wp2_with (at_builtin; refine list_app_u64 (o := ⟨some 40, _, _, _, _, _⟩) rfl (.tmp 38) (.tmp 39) rfl w.heap.size _ [] rfl HO0.out _ l rfl R0.out HL.out HB0.out.size ?_; intro vu w1 o1 g1 _)
    have B1 : Below w.heap.size w w1 := below_app_u HB0.out HB0.out.size HO0.out g1
    rw [List.nil_append] at o1
    obtain ⟨gu, cu, rfl, hgu, _⟩ := OwnU.block o1 (by omega)
    obtain ⟨cell1, free1⟩ := OwnU.cells o1 hkl
    obtain ⟨w2, hw2⟩ : ∃ w2, w1.setCell ⟨gu, k, none⟩ (.int .u64 X) = w2 := ⟨_, rfl⟩
    have o2 := OwnU.stored o1 k X
    have B2 := B1.setCell (p := ⟨gu, k, none⟩) hgu (.int .u64 X)
    rw [hw2] at o2 B2
    obtain ⟨w3, hw3⟩ : ∃ w3, w2.alloc (.cells (madeCells #[.int .u64 0] l.length) 24) = w3 := ⟨_, rfl⟩
    have o3 := own_made_u w2 l.length HM.out
    have B3 : Below w2.heap.size w2 w3 := by rw [← hw3]; exact bal (Below.refl _ _)
    rw [hw3] at o3
    obtain ⟨cell3, free3⟩ := OwnU.cells o3 (j := J) (by simpa using hJl)
    obtain ⟨w4, hw4⟩ : ∃ w4, w3.setCell ⟨w2.heap.size, J, none⟩ (.int .u64 1) = w4 := ⟨_, rfl⟩
    have o4 := OwnU.stored o3 J 1
    have B4 := B3.setCell (p := ⟨w2.heap.size, J, none⟩) (Nat.le_refl _) (.int .u64 1)
    rw [hw4] at o4 B4
    have D1 := Lib.hid (C1.out _ _ w4 (ru_below o2.ru B4))
    have D2 := Lib.hid (C1.out _ _ w4 o4.ru)
    have D3 := Lib.hid (C1.out _ _ w4 (ru_below R.out (below_more B2 B4)))
    have D4 := Lib.hid (may_any _ _ 0 w4 (ru_below R.out (below_more B2 B4)) (by decide))
    rw [F1.out] at D1
    rw [F2.out] at D2
    rw [MY.out] at D3
    rw [mayT_few (by decide)] at D4
    have HB4 := Lib.hid (below_more B2 B4)
    clear B1 B2 B3 B4 o1 o2 o3 o4 g1
    go_wp2_with fail
    refine (C3.out _).mono ?_; rintro e w' ⟨rfl, rfl⟩
    go_wp2_with fail
    refine (D1.out).mono ?_; rintro e w' ⟨rfl, rfl⟩
    go_wp2_with fail
    refine (D2.out).mono ?_; rintro e w' ⟨rfl, rfl⟩
    go_wp2_with fail
    refine (D3.out).mono ?_; rintro e w' ⟨rfl, rfl⟩
    go_wp2_with fail
    refine (D4.out).mono ?_; rintro e w' ⟨rfl, rfl⟩
    go_wp2_with fail
    refine (awake_any _).mono ?_; rintro e w5 ⟨rfl, h5⟩
    have HB5 := Lib.hid (below_more HB4.out h5)
    clear h5
    go_wp2
    go_ret
    exact ⟨rfl, HB5.out⟩

theorem walk (l0 : List Int) (v0 : Value) (a1 a2 a3 : Int) (w : World) (w0 : IntsIn .u64 w v0 l0) (_ : (Lit.int .i64 a1).wf = true) (_ : (Lit.int .i64 a2).wf = true) (w3 : (Lit.int .u64 a3).wf = true) :
    Calls Try.prog 7 #[v0, .int .i64 a1, .int .i64 a2, .int .u64 a3] w fun e w' => e = .returned (.bool true) ∧ Below w.heap.size w w' := by
  have hr := ru_in w0
  obtain ⟨p, cap, rfl, _⟩ := w0
  obtain ⟨q, rfl, _⟩ := nat_of_u64 w3
  by_cases h : l0.length < 2
  · exact far p _ cap a1 a2 _ w (.inl h)
  · by_cases h2 : 60 < l0.length
    · exact far p _ cap a1 a2 _ w (.inr h2)
    · exact near l0 p cap a1 a2 q w hr h h2

set_option maxRecDepth 100000 in
theorem lifted (os : Os) (started : os.Started) (H : Type) (enc : TypeId × Value → H) :
    ReturnsInHanded {} Try.checked os 7 .any (Rows.spareSpoiltSpec.pre6 enc Try.prog Try.f7 Rows.spareSpoiltRow.domain false) (Rows.spareSpoiltSpec.post enc Try.prog Try.f7 false true false false) := by
  refine returnsInHanded_of_change (C := Try.checked) own started (by kernel_rfl) Try.func7
    (ChangeSpec.witness6 (enc := enc) (C := Try.checked) false ⟨#[], #[.slice none 0 0, .int .i64 0, .int .i64 0, .int .u64 0], []⟩ 8 (by kernel_rfl) (by kernel_rfl) (by kernel_rfl) (by kernel_rfl)) ?_
  intro W base args ds gs before hval0 hW hcnd _
  have hval : ∀ (j : Nat) t v, Try.f7.params[j]? = some t → args[j]? = some v → Value.okWide Try.prog W .any base t v := hval0
  have hW' := hW
  have hlt := hW.lt
  obtain ⟨p, q, hA0, hV, hpq, hfz, hnd⟩ := hW
  have hA : DataW.TrodAll enc Try.prog W 0 (fun _ => true) true Try.f7.params.toList args.toList ds p := hA0
  rw [Try.params7] at hA hval
  obtain ⟨v0, vs0, d0, ds0, p0, q0, hargs, rfl, hp, h0, r0⟩ := trodAll_cons hA
  obtain ⟨v1, vs1, d1, ds1, p1, q1, rfl, rfl, rfl, h1, r1⟩ := trodAll_cons r0
  obtain ⟨v2, vs2, d2, ds2, p2, q2, rfl, rfl, rfl, h2, r2⟩ := trodAll_cons r1
  obtain ⟨v3, vs3, d3, ds3, p3, q3, rfl, rfl, rfl, h3, r3⟩ := trodAll_cons r2
  obtain ⟨rfl, rfl, rfl⟩ := trodAll_nil r3
  obtain rfl : args = #[v0, v1, v2, v3] := by cases args; simp_all
  obtain ⟨rfl, rfl⟩ := trodVars_none hV
  have hlt' : ∀ x ∈ before, x.block < W.heap.size := fun x hx => hlt x hx
  obtain ⟨l0, w0⟩ := ints_in Try.underlying22 Try.underlying24 (by kernel_rfl) (hval 0 22 v0 rfl rfl) (fun x hx => hlt' x (by rw [hpq, hp]; simp [hx])) h0
  obtain ⟨a1, rfl, rfl, rfl, w1⟩ := open_int Try.underlying3 (hval 1 3 v1 rfl rfl) h1
  obtain ⟨a2, rfl, rfl, rfl, w2⟩ := open_int Try.underlying3 (hval 2 3 v2 rfl rfl) h2
  obtain ⟨a3, rfl, rfl, rfl, w3⟩ := open_int Try.underlying24 (hval 3 24 v3 rfl rfl) h3
  refine (walk l0 v0 a1 a2 a3 W w0 w1 w2 w3).mono fun e W' ⟨he, hb⟩ => ?_
  subst he
  exact ⟨_, rfl, law_post rfl (by kernel_rfl) hW' (by rw [Try.params7]; intro t ht; simp only [List.mem_cons, List.not_mem_nil, or_false] at ht; (repeat' (first | (rcases ht with rfl | ht) | subst ht)) <;> exact ⟨by kernel_rfl, of_decide_eq_true (by kernel_rfl)⟩) rfl hb⟩

theorem over : Rows.spareSpoiltRow.holds Try.pinned (OpenSpec.ofChange Rows.spareSpoiltSpec) :=
  OpenClaim.holds_of_wide 7 Try.f7 rfl rfl rfl rfl rfl rfl rfl ⟨rfl, rfl, rfl, rfl, rfl⟩ rfl rfl rfl rfl rfl (by kernel_rfl) Try.func7 (by kernel_rfl)
    (of_decide_eq_true (by kernel_rfl)) (by unfold Func.isWrapper; first | (rw [if_pos (by decide +kernel)]; kernel_rfl) | (rw [if_neg (by decide +kernel)]; exact ⟨rfl, rfl⟩))
    (fun os started H enc _ => lifted os started H enc)

theorem proved : Rows.SpareSpoiltSaid := over
end Go.Proofs.Ytjfedklpmbnjcaa.spareSpoilt
