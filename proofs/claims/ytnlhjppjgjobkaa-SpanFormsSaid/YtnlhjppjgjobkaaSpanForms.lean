/-
  Pieces, Read, Edits, Apply and Lines tell what the reference tells, of any words, any numbers, any bytes, any edits. No conditions.
-/
import Derived.Test.YtnlhjppjgjobkaaSpv
import Derived.Test.YtnlhjppjgjobkaaSpx
import Derived.Test.YtnlhjppjgjobkaaElr
import Derived.Test.YtnlhjppjgjobkaaWsm
import Derived.Test.YtnlhjppjgjobkaaIsm
namespace Go.Proofs.Ytnlhjppjgjobkaa.spanForms
set_option maxRecDepth 100000
open Go.Proofs.Ytnlhjppjgjobkaa Go.ChangeShapes Go.WideShapes Go.ChangeAt Go.RowKit

set_option maxHeartbeats 1000000 in
theorem far (L B M c d f : Nat) (p q r : Option Addr) (o n : Int) (w : World) (h : 600 < L ∨ 600 < B ∨ 300 < M) :
    Calls Try.prog 3 #[.slice p L c, .int .i64 o, .int .i64 n, .slice q B d, .slice r M f] w fun e w' => e = .returned (.bool true) ∧ Below w.heap.size w w' := by
  by_cases h1 : 600 < L
  · have i1 : (L : Int) > 600 := by omega
    clear h
    go_enter Try.func3, Try.ntmps3
    go_wp2_with fail
    refine (awake_any _).mono ?_; rintro e w' ⟨rfl, hb⟩
    go_wp2_with fail
    go_ret
    exact ⟨rfl, hb⟩
  · have i1 : ¬ (L : Int) > 600 := by omega
    by_cases h2 : 600 < B
    · have i2 : (B : Int) > 600 := by omega
      clear h h1
      go_enter Try.func3, Try.ntmps3
      go_wp2_with fail
      refine (awake_any _).mono ?_; rintro e w' ⟨rfl, hb⟩
      go_wp2_with fail
      go_ret
      exact ⟨rfl, hb⟩
    · have i2 : ¬ (B : Int) > 600 := by omega
      have i3 : (M : Int) > 300 := by omega
      clear h h1 h2
      go_enter Try.func3, Try.ntmps3
      go_wp2_with fail
      refine (awake_any _).mono ?_; rintro e w' ⟨rfl, hb⟩
      go_wp2_with fail
      go_ret
      exact ⟨rfl, hb⟩
set_option maxHeartbeats 4000000 in
theorem near (wl bl : List Int) (es : List Ed) (v u y : Value) (o n : Int) (w : World) (hv : RU w v wl) (hw : ∀ x ∈ wl, Wd x) (hb : RA byE w u bl) (he : RA edE w y es)
    (ho : -9223372036854775808 ≤ o ∧ o ≤ 9223372036854775807) (hn : -9223372036854775808 ≤ n ∧ n ≤ 9223372036854775807) (hl : wl.length ≤ 600) (hbl : bl.length ≤ 600) (hel : es.length ≤ 300) :
    Calls Try.prog 3 #[v, .int .i64 o, .int .i64 n, u, y] w fun e w' => e = .returned (.bool true) ∧ Below w.heap.size w w' := by
  obtain ⟨X, hX⟩ : ∃ X, (if OkP o n then pcs o.toNat n.toNat else []) = X := ⟨_, rfl⟩
  obtain ⟨RD, hRD⟩ : ∃ RD, rdL wl o n = RD := ⟨_, rfl⟩
  obtain ⟨r1, hr1⟩ : ∃ r1, decide (InB wl.length o n) = r1 := ⟨_, rfl⟩
  obtain ⟨r2, hr2⟩ : ∃ r2, decide (InB wl.length o bl.length) = r2 := ⟨_, rfl⟩
  have C1 := Lib.hid (fun w' => pieces_is o n w')
  have C2 := Lib.hid (fun w' => rpieces_is o n w')
  rw [hX] at C1 C2
  have C3 := Lib.hid (fun (w' : World) (hb : Below w.heap.size w w') => read_is wl v o n w' (ru_below hv hb) hw hn (by omega))
  have C4 := Lib.hid (fun (w' : World) (hb : Below w.heap.size w w') => rread_is wl v o n w' (ru_below hv hb) hw ho hn (by omega))
  rw [hRD, hr1] at C3 C4
  have C5 := Lib.hid (fun (w' : World) (hb' : Below w.heap.size w w') => edits_is wl bl v u o w' (ru_below hv hb') (ra_below hb hb') hw ho (by omega) (by omega))
  have C6 := Lib.hid (fun (w' : World) (hb' : Below w.heap.size w w') => redits_is wl bl v u o w' (ru_below hv hb') (ra_below hb hb') hw ho (by omega) (by omega))
  rw [hr2] at C5 C6
  have C7 := Lib.hid (fun (w' : World) (hb' : Below w.heap.size w w') => apply_is wl es v y w' (ru_below hv hb') (ra_below he hb') (by omega) (by omega))
  have C8 := Lib.hid (fun (w' : World) (hb' : Below w.heap.size w w') => rapply_any wl es v y w' (ru_below hv hb') (ra_below he hb') (by omega) (by omega))
  have C9 := Lib.hid (fun (w' : World) (hb' : Below w.heap.size w w') => lines_is es y w' (ra_below he hb') (by omega))
  have C10 := Lib.hid (fun (w' : World) (hb' : Below w.heap.size w w') => rlines_is es y w' (ra_below he hb') (by omega))
  have HIs := Lib.hid (lines_are es).1
  obtain ⟨R, hR⟩ : ∃ R, Lib.compact ((lnR es).mergeSort fun x y => decide (x ≤ y)) = R := ⟨_, rfl⟩
  rw [hR] at C9 HIs
  obtain ⟨A, hA⟩ : ∃ A, appF wl es = A := ⟨_, rfl⟩
  rw [hA] at C7 C8
  have hXl : X.length ≤ 1000 := by
    rw [← hX]
    split
    · rename_i h
      rw [pcs_length]
      have := h.2.2.2
      unfold cnt
      split <;> omega
    · simp
  have HXl := Lib.hid hXl
  obtain ⟨p, c, rfl, _, _, _⟩ := id hv
  obtain ⟨q, d, rfl, _, _⟩ := ra_shape hb
  obtain ⟨r, f, rfl, _, _⟩ := ra_shape he
  have i1 : ¬ (wl.length : Int) > 600 := by omega
  have i2 : ¬ (bl.length : Int) > 600 := by omega
  have i3 : ¬ (es.length : Int) > 300 := by omega
  have i4 : ¬ wl.length > 600 := by omega
  have i5 : ¬ bl.length > 600 := by omega
  have i6 : ¬ es.length > 300 := by omega
  clear hv hw hb he ho hn hl hbl hel hX hRD hr1 hr2 hR hA hXl
  obtain ⟨Lw, hLw⟩ : ∃ L, wl.length = L := ⟨_, rfl⟩
  obtain ⟨Lb, hLb⟩ : ∃ L, bl.length = L := ⟨_, rfl⟩
  obtain ⟨Le, hLe⟩ : ∃ L, es.length = L := ⟨_, rfl⟩
  rw [hLw] at C3 C4 C5 C6 C7 C8 i1 i4 ⊢
  rw [hLb] at C5 C6 i2 i5 ⊢
  rw [hLe] at C7 C8 C9 C10 i3 i6 ⊢
  clear hLw hLb hLe
  go_enter Try.func3, Try.ntmps3
  go_wp2_with fail
  refine (C1.out w).mono ?_; rintro e w1 ⟨⟨u1, rfl, o1⟩, b1⟩
  obtain ⟨p1, k1, rfl, _, _⟩ := o1.shape
  have B1 := Lib.hid b1
  have O1 := Lib.hid o1
  clear o1 b1
  go_wp2_with fail
  refine (C2.out w1).mono ?_; rintro e w2 ⟨⟨u2, rfl, o2⟩, b2⟩
  obtain ⟨p2, k2, rfl, _, _⟩ := o2.shape
  have B2 := Lib.hid (below_more B1.out b2)
  have O1' := Lib.hid (ra_below O1.out.ra b2)
  have O2 := Lib.hid o2.ra
  clear o2 b2 O1 C1 C2
  have HS : Hid (∀ wr, (∃ n, wr = w2.drewN n) → ∀ j, j < X.length → ∃ b off b' off', p1 = some ⟨b, off, none⟩ ∧ p2 = some ⟨b', off', none⟩ ∧ (∀ m, (pcLoad (.pointer (some ⟨b, off + j * 3, none⟩))).run Try.prog (wr.drewN m) = .ok (.agg (pc (X.getD j default))) (wr.drewN m)) ∧ ∀ m, (pcLoad (.pointer (some ⟨b', off' + j * 3, none⟩))).run Try.prog (wr.drewN m) = .ok (.agg (pc (X.getD j default))) (wr.drewN m)) := Lib.hid fun wr hwr j hj => by
    obtain ⟨n, rfl⟩ := hwr
    obtain ⟨b, off, rfl, _, _⟩ := pc_at O1'.out (by omega)
    obtain ⟨b', off', rfl, _, _⟩ := pc_at O2.out (by omega)
    refine ⟨b, off, b', off', rfl, rfl, fun m => ?_, fun m => ?_⟩
    · obtain ⟨_, _, e, _, hx⟩ := pc_at (w := (w2.drewN n).drewN m) O1'.out (by omega)
      cases e
      exact (hx j hj).1
    · obtain ⟨_, _, e, _, hx⟩ := pc_at (w := (w2.drewN n).drewN m) O2.out (by omega)
      cases e
      exact (hx j hj).1
  clear O1' O2
  go_wp2
  go_loopw [49] (fun i wr => ∃ k : Nat, k ≤ X.length ∧ i = .int .i64 k ∧ Hid (∃ n, wr = w2.drewN n)) (fun i _ => X.length - (intOf i).toNat)
  case atStart => exact ⟨0, Nat.zero_le _, rfl, Lib.hid ⟨0, rfl⟩⟩
  case round =>
    obtain ⟨k, hk, rfl, HD⟩ := hrel
    by_cases hlt : k < X.length
    · obtain ⟨b, off, b', off', e1, e2, d1, d2⟩ := HS.out wr HD.out k hlt
      subst e1 e2
      have j0 : IntKind.i64.wrap ((k : Int) + 1) = ((k + 1 : Nat) : Int) := by rw [show (k : Int) + 1 = ((k + 1 : Nat) : Int) by omega]; exact i64_nat _ (by have := HXl.out; omega)
      have j1 : (0 : Int) ≤ (k : Int) := by omega
      have j2 : (k : Int) < (X.length : Int) := by omega
      have j3 : ¬ (k : Int) < 0 := by omega
      have HD2 : Hid (∀ m, ∃ n', wr.drewN m = w2.drewN n') := Lib.hid fun m => by
        obtain ⟨n, e⟩ := HD.out
        subst e
        exact ⟨_, World.drewN_drewN ..⟩
      have HK := Lib.hid hlt
      clear HS hlt hk HD
      generalize X.getD k default = z at *
      have hz := eqP_self z
      generalize X.length = L at *
      go_wp2_with fail
      go_quiet (fail)
      go_wp2
      exact ⟨⟨k + 1, by have := HK.out; omega, by go_num, Lib.hid (HD2.out _)⟩, by have := HK.out; simp [intOf]; omega⟩
    · obtain rfl : k = X.length := by omega
      have B3 : Hid (Below w.heap.size w wr) := Lib.hid (by obtain ⟨n, e⟩ := HD.out; subst e; exact below_drewN B2.out n)
      clear HS HD hk hlt HXl
      generalize X.length = L at *
      go_wp2_with fail
      refine (C3.out wr B3.out).mono ?_; rintro e w4 ⟨⟨v4, rfl, o4⟩, b4⟩
      have B4 := Lib.hid (below_more B3.out b4)
      have O4 := Lib.hid o4.ra
      clear o4 b4 C3
      go_wp2_with fail
      refine (C4.out w4 B4.out).mono ?_; rintro e w5 ⟨⟨v5, rfl, o5⟩, b5⟩
      have B5 := Lib.hid (below_more B4.out b5)
      have O4' := Lib.hid (ra_below O4.out b5)
      have O5 := Lib.hid o5.ra
      clear o5 b5 C4 O4
      go_wp2_with fail
      refine (C5.out w5 B5.out).mono ?_; rintro e w6 ⟨⟨v6, L6, rfl, o6, t6⟩, b6⟩
      have B6 := Lib.hid (below_more B5.out b6)
      have O4 := Lib.hid (ra_below O4'.out b6)
      have O5' := Lib.hid (ra_below O5.out b6)
      have O6 := Lib.hid o6.ra
      have T6 := Lib.hid t6
      clear o6 b6 t6 C5 O4' O5
      go_wp2_with fail
      refine (C6.out w6 B6.out).mono ?_; rintro e w7 ⟨⟨v7, L7, rfl, o7, t7⟩, b7⟩
      obtain rfl : L7 = L6 := t7.one T6.out
      have B7 := Lib.hid (below_more B6.out b7)
      have s1 := run_strConv (ra_below O4.out b7)
      have s2 := run_strConv (ra_below O5'.out b7)
      have C11 := Lib.hid (edits_same_b (ra_below O6.out b7) o7.ra)
      clear o7 b7 t7 T6 C6 O4 O5' O6
      generalize strOfNums RD = S at *
      go_wp2_with fail
      refine (C11.out).mono ?_; rintro e w8 ⟨rfl, b8⟩
      have B8 := Lib.hid (below_more B7.out b8)
      clear b8 C11
      go_wp2_with fail
      refine (C7.out w8 B8.out).mono ?_; rintro e w9 ⟨⟨v9, rfl, o9⟩, b9⟩
      have B9 := Lib.hid (below_more B8.out b9)
      have O9 := Lib.hid o9
      clear o9 b9 C7
      go_wp2_with fail
      refine (C8.out w9 B9.out).mono ?_; rintro e w10 ⟨⟨v10, rfl, o10⟩, b10⟩
      have B10 := Lib.hid (below_more B9.out b10)
      have C12 := Lib.hid (words_same (O9.out.below b10).ru o10.ru)
      clear o10 b10 C8 O9
      go_wp2_with fail
      refine (C12.out).mono ?_; rintro e w11 ⟨rfl, n11, e11⟩
      have B11 : Hid (Below w.heap.size w w11) := Lib.hid (by subst e11; exact below_drewN B10.out n11)
      clear e11 C12
      go_wp2_with fail
      refine (C9.out w11 B11.out).mono ?_; rintro e w12 ⟨⟨v12, rfl, o12⟩, b12⟩
      have B12 := Lib.hid (below_more B11.out b12)
      have O12 := Lib.hid o12
      clear o12 b12 C9
      go_wp2_with fail
      refine (C10.out w12 B12.out).mono ?_; rintro e w13 ⟨⟨v13, R13, rfl, o13, i13⟩, b13⟩
      obtain rfl : R13 = R := i13.one HIs.out
      have B13 := Lib.hid (below_more B12.out b13)
      have C13 := Lib.hid (ints_same (ri_below O12.out.ri b13) o13.ri)
      clear o13 b13 i13 C10 O12
      go_wp2_with fail
      refine (C13.out).mono ?_; rintro e w14 ⟨rfl, n14, e14⟩
      have B14 : Hid (Below w.heap.size w w14) := Lib.hid (by subst e14; exact below_drewN B13.out n14)
      clear e14 C13
      go_wp2_with fail
      refine (awake_any _).mono ?_; rintro e w15 ⟨rfl, b15⟩
      have B15 := Lib.hid (below_more B14.out b15)
      clear b15
      go_wp2_with fail
      go_ret
      exact ⟨rfl, B15.out⟩
theorem words_wd {w : World} {v : Value} {l : List Int} (h : IntsIn .u64 w v l) : ∀ x ∈ l, Wd x := fun x hx => by
  have := u64_in (in_wf_u h x hx)
  exact ⟨this.1, by omega⟩
theorem walk (l0 : List Int) (v0 : Value) (a1 a2 : Int) (l3 : List Int) (v3 : Value) (l4 : List Ed) (v4 : Value) (w : World) (h0 : IntsIn .u64 w v0 l0) (h1 : (Lit.int .i64 a1).wf = true) (h2 : (Lit.int .i64 a2).wf = true) (h3 : RA byE w v3 l3) (h4 : RA edE w v4 l4) :
    Calls Try.prog 3 #[v0, .int .i64 a1, .int .i64 a2, v3, v4] w fun e w' => e = .returned (.bool true) ∧ Below w.heap.size w w' := by
  by_cases h : 600 < l0.length ∨ 600 < l3.length ∨ 300 < l4.length
  · obtain ⟨p, c, rfl, _, _, _⟩ := ru_in h0
    obtain ⟨q, d, rfl, _, _⟩ := ra_shape h3
    obtain ⟨r, f, rfl, _, _⟩ := ra_shape h4
    exact far l0.length l3.length l4.length c d f p q r a1 a2 w h
  · have h' := not_or.1 h
    have h'' := not_or.1 h'.2
    exact near l0 l3 l4 v0 v3 v4 a1 a2 w (ru_in h0) (words_wd h0) h3 h4 (i64_wf h1) (i64_wf h2) (by omega) (by omega) (by omega)

set_option maxRecDepth 100000 in
theorem lifted (os : Os) (started : os.Started) (H : Type) (enc : TypeId × Value → H) :
    ReturnsInHanded {} Try.checked os 3 .any (Rows.spanFormsSpec.pre6 enc Try.prog Try.f3 Rows.spanFormsRow.domain false) (Rows.spanFormsSpec.post enc Try.prog Try.f3 false true false false) := by
  refine returnsInHanded_of_change (C := Try.checked) own started (by kernel_rfl) Try.func3
    (ChangeSpec.witness6 (enc := enc) (C := Try.checked) false ⟨#[], #[.slice none 0 0, .int .i64 0, .int .i64 0, .slice none 0 0, .slice none 0 0], []⟩ 8 (by kernel_rfl) (by kernel_rfl) (by kernel_rfl) (by kernel_rfl)) ?_
  intro W base args ds gs before hval0 hW hcnd _
  have hval : ∀ (j : Nat) t v, Try.f3.params[j]? = some t → args[j]? = some v → Value.okWide Try.prog W .any base t v := hval0
  have hW' := hW
  have hlt := hW.lt
  obtain ⟨p, q, hA0, hV, hpq, hfz, hnd⟩ := hW
  have hA : DataW.TrodAll enc Try.prog W 0 (fun _ => true) true Try.f3.params.toList args.toList ds p := hA0
  rw [Try.params3] at hA hval
  obtain ⟨v0, vs0, d0, ds0, p0, q0, hargs, rfl, hp, h0, r0⟩ := trodAll_cons hA
  obtain ⟨v1, vs1, d1, ds1, p1, q1, rfl, rfl, rfl, h1, r1⟩ := trodAll_cons r0
  obtain ⟨v2, vs2, d2, ds2, p2, q2, rfl, rfl, rfl, h2, r2⟩ := trodAll_cons r1
  obtain ⟨v3, vs3, d3, ds3, p3, q3, rfl, rfl, rfl, h3, r3⟩ := trodAll_cons r2
  obtain ⟨v4, vs4, d4, ds4, p4, q4, rfl, rfl, rfl, h4, r4⟩ := trodAll_cons r3
  obtain ⟨rfl, rfl, rfl⟩ := trodAll_nil r4
  obtain rfl : args = #[v0, v1, v2, v3, v4] := by cases args; simp_all
  obtain ⟨rfl, rfl⟩ := trodVars_none hV
  have hlt' : ∀ x ∈ before, x.block < W.heap.size := fun x hx => hlt x hx
  obtain ⟨l0, w0⟩ := ints_in Try.underlying22 Try.underlying41 (by kernel_rfl) (hval 0 22 v0 rfl rfl) (fun x hx => hlt' x (by rw [hpq, hp]; simp [hx])) h0
  obtain ⟨a1, rfl, rfl, rfl, w1⟩ := open_int Try.underlying3 (hval 1 3 v1 rfl rfl) h1
  obtain ⟨a2, rfl, rfl, rfl, w2⟩ := open_int Try.underlying3 (hval 2 3 v2 rfl rfl) h2
  obtain ⟨l3, w3⟩ := bytes_in (hval 3 23 v3 rfl rfl) h3
  obtain ⟨l4, w4⟩ := edits_in (hval 4 24 v4 rfl rfl) h4
  refine (walk l0 v0 a1 a2 l3 v3 l4 v4 W w0 w1 w2 w3 w4).mono fun e W' ⟨he, hb⟩ => ?_
  subst he
  exact ⟨_, rfl, law_post rfl (by kernel_rfl) hW' (by rw [Try.params3]; intro t ht; simp only [List.mem_cons, List.not_mem_nil, or_false] at ht; (repeat' (first | (rcases ht with rfl | ht) | subst ht)) <;> exact ⟨by kernel_rfl, of_decide_eq_true (by kernel_rfl)⟩) rfl hb⟩

theorem over : Rows.spanFormsRow.holds Try.pinned (OpenSpec.ofChange Rows.spanFormsSpec) :=
  OpenClaim.holds_of_wide 3 Try.f3 rfl rfl rfl rfl rfl rfl rfl ⟨rfl, rfl, rfl, rfl, rfl⟩ rfl rfl rfl rfl rfl (by kernel_rfl) Try.func3 (by kernel_rfl)
    (of_decide_eq_true (by kernel_rfl)) (by unfold Func.isWrapper; first | (rw [if_pos (by decide +kernel)]; kernel_rfl) | (rw [if_neg (by decide +kernel)]; exact ⟨rfl, rfl⟩))
    (fun os started H enc _ => lifted os started H enc)

theorem proved : Rows.SpanFormsSaid := over
end Go.Proofs.Ytnlhjppjgjobkaa.spanForms
