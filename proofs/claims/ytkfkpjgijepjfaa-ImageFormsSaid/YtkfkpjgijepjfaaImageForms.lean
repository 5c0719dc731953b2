/-
  Alloc, Free, Read, Write, Is and Holds tell what the reference tells, of any words, any numbers, any counts, any bytes. No conditions.
-/
import Derived.Test.YtkfkpjgijepjfaaZmc
import Derived.Test.YtkfkpjgijepjfaaZmd
namespace Go.Proofs.Ytkfkpjgijepjfaa.imageForms
set_option maxRecDepth 100000
open Go.Proofs.Ytkfkpjgijepjfaa Go.ChangeShapes Go.WideShapes Go.ChangeAt Go.RowKit

set_option maxHeartbeats 1000000 in
theorem far (L B M c d f : Nat) (p q r : Option Addr) (n o : Int) (w : World) (h : 600 < L ∨ 60 < M ∨ 600 < B) :
    Calls Try.prog 3 #[.slice p L c, .int .i64 n, .slice r M f, .int .i64 o, .slice q B d] w fun e w' => e = .returned (.bool true) ∧ Below w.heap.size w w' := by
  by_cases h1 : 600 < L
  · have i1 : (L : Int) > 600 := by omega
    clear h
    go_enter Try.func3, Try.ntmps3
    go_wp2_with fail
    refine (awake_any _).mono ?_; rintro e w' ⟨rfl, hb⟩
    go_wp2_with fail
    go_ret
    exact ⟨rfl, hb⟩
  · have i1 : ¬ (L : Int) > 600 := by omega
    by_cases h2 : 60 < M
    · have i2 : (M : Int) > 60 := by omega
      clear h h1
      go_enter Try.func3, Try.ntmps3
      go_wp2_with fail
      refine (awake_any _).mono ?_; rintro e w' ⟨rfl, hb⟩
      go_wp2_with fail
      go_ret
      exact ⟨rfl, hb⟩
    · have i2 : ¬ (M : Int) > 60 := by omega
      have i3 : (B : Int) > 600 := by omega
      clear h h1 h2
      go_enter Try.func3, Try.ntmps3
      go_wp2_with fail
      refine (awake_any _).mono ?_; rintro e w' ⟨rfl, hb⟩
      go_wp2_with fail
      go_ret
      exact ⟨rfl, hb⟩

set_option maxHeartbeats 4000000 in
theorem near (wl : List Int) (v : Value) (n : Int) (cs : List Int) (y : Value) (o : Int) (bl : List Int) (u : Value) (w : World) (hv : RU w v wl) (hw : WordsOk wl) (hc : RI w y cs) (hb : RA byE w u bl)
    (ho : -9223372036854775808 ≤ o ∧ o ≤ 9223372036854775807) (hn : -9223372036854775808 ≤ n ∧ n ≤ 9223372036854775807) (hl : wl.length ≤ 600) (hcl : cs.length ≤ 60) (hbl : bl.length ≤ 600) :
    Calls Try.prog 3 #[v, .int .i64 n, y, .int .i64 o, u] w fun e w' => e = .returned (.bool true) ∧ Below w.heap.size w w' := by
  obtain ⟨A, hA⟩ : ∃ A, alR wl n cs = A := ⟨_, rfl⟩
  obtain ⟨aE, aO, aR⟩ := A
  obtain ⟨F, hF⟩ : ∃ F, frR wl o = F := ⟨_, rfl⟩
  obtain ⟨fE, fR⟩ := F
  obtain ⟨rB, hrB⟩ : ∃ B, rdR wl o n = B := ⟨_, rfl⟩
  obtain ⟨rR, hrR⟩ : ∃ B, refF wl o n = B := ⟨_, rfl⟩
  obtain ⟨wR, hwR⟩ : ∃ B, refF wl o bl.length = B := ⟨_, rfl⟩
  obtain ⟨R, hR⟩ : ∃ R, blkF wl = R := ⟨_, rfl⟩
  have C1 := Lib.hid (fun (w' : World) (hb : Below w.heap.size w w') => al_is wl n cs v y w' (ru_below hv hb) (by omega) hw (ri_below hc hb))
  have C2 := Lib.hid (fun (w' : World) (hb : Below w.heap.size w w') => ral_is wl n cs v y w' (ru_below hv hb) (by omega) hw (ri_below hc hb))
  rw [hA] at C1 C2
  have C3 := Lib.hid (fun (w' : World) (hb : Below w.heap.size w w') => fr_is wl o v w' (ru_below hv hb) (by omega) hw)
  have C4 := Lib.hid (fun (w' : World) (hb : Below w.heap.size w w') => rfr_is wl o v w' (ru_below hv hb) (by omega) hw)
  rw [hF] at C3 C4
  have C5 := Lib.hid (fun (w' : World) (hb : Below w.heap.size w w') => rd_is wl o n v w' (ru_below hv hb) (by omega) hw hn)
  have C6 := Lib.hid (fun (w' : World) (hb : Below w.heap.size w w') => rrd_is wl o n v w' (ru_below hv hb) (by omega) hw ho hn)
  rw [hrB, hrR] at C5 C6
  have C7 := Lib.hid (fun (w' : World) (hb' : Below w.heap.size w w') => wr_is wl bl o v u w' (ru_below hv hb') (ra_below hb hb') (by omega) (by omega) hw ho)
  have C8 := Lib.hid (fun (w' : World) (hb' : Below w.heap.size w w') => rwr_is wl bl o v u w' (ru_below hv hb') (ra_below hb hb') (by omega) (by omega) hw ho)
  rw [hwR] at C7 C8
  have C9 := Lib.hid (fun (w' : World) (hb : Below w.heap.size w w') => rblocks_main wl v R w' (ru_below hv hb) (by omega) hw hR)
  have C10 := Lib.hid (fun (w' : World) (hb : Below w.heap.size w w') => is_is wl o v w' (ru_below hv hb) (by omega) hw)
  have C11 := Lib.hid (fun (w' : World) (hb : Below w.heap.size w w') => holds_is wl o n v w' (ru_below hv hb) (by omega) hw)
  have HW : Hid (∀ L L', WrT wl bl o L → WrT wl bl o L' → L = L') := Lib.hid fun L L' h h' => h.one h'
  have HB := Lib.hid hR
  simp only at C1 C2 C3 C4
  obtain ⟨p, c, rfl, _, _, _⟩ := id hv
  obtain ⟨q, d, rfl, _, _⟩ := ra_shape hb
  obtain ⟨r, f, rfl, _, _, _⟩ := id hc
  have i1 : ¬ (wl.length : Int) > 600 := by omega
  have i2 : ¬ (cs.length : Int) > 60 := by omega
  have i3 : ¬ (bl.length : Int) > 600 := by omega
  clear hv hw hb hc ho hn hl hcl hbl hA hF hrB hwR hR hrR
  have g1 : (aO == aO) = true := by simp
  have g2 : (aR == aR) = true := by simp
  have g3 : (fR == fR) = true := by simp
  have g4 : (rR == rR) = true := by simp
  have g5 : (wR == wR) = true := by simp
  generalize wl.length = Lw at *
  generalize cs.length = Lc at *
  generalize bl.length = Lb at *
  go_enter Try.func3, Try.ntmps3
  go_wp2_with fail
  refine (C1.out w (Below.refl _ _)).mono ?_; rintro e w1 ⟨⟨u1, rfl, o1⟩, b1⟩
  have B1 := Lib.hid b1
  have O1 := Lib.hid o1.ra
  clear o1 b1 C1
  go_wp2_with fail
  refine (C2.out w1 B1.out).mono ?_; rintro e w2 ⟨⟨u2, rfl, o2⟩, b2⟩
  have B2 := Lib.hid (below_more B1.out b2)
  have O1 := Lib.hid (ra_below O1.out b2)
  have O2 := Lib.hid o2.ra
  clear o2 b2 C2
  go_wp2_with fail
  refine (C3.out w2 B2.out).mono ?_; rintro e w3 ⟨⟨u3, rfl, o3⟩, b3⟩
  have B3 := Lib.hid (below_more B2.out b3)
  have O1 := Lib.hid (ra_below O1.out b3)
  have O2 := Lib.hid (ra_below O2.out b3)
  have O3 := Lib.hid o3.ra
  clear o3 b3 C3
  go_wp2_with fail
  refine (C4.out w3 B3.out).mono ?_; rintro e w4 ⟨⟨u4, rfl, o4⟩, b4⟩
  have B4 := Lib.hid (below_more B3.out b4)
  have O1 := Lib.hid (ra_below O1.out b4)
  have O2 := Lib.hid (ra_below O2.out b4)
  have O3 := Lib.hid (ra_below O3.out b4)
  have O4 := Lib.hid o4.ra
  clear o4 b4 C4
  go_wp2_with fail
  refine (C5.out w4 B4.out).mono ?_; rintro e w5 ⟨⟨u5, rfl, o5⟩, b5⟩
  have B5 := Lib.hid (below_more B4.out b5)
  have B45 := Lib.hid b5
  have O5 := Lib.hid o5.ra
  clear o5 b5 C5
  go_wp2_with fail
  refine (C6.out w5 B5.out).mono ?_; rintro e w6 ⟨⟨u6, rfl, o6⟩, b6⟩
  have B6 := Lib.hid (below_more B5.out b6)
  have B46 := Lib.hid (below_more B45.out b6)
  have O5 := Lib.hid (ra_below O5.out b6)
  have O6 := Lib.hid o6.ra
  clear o6 b6 C6
  go_wp2_with fail
  refine (C7.out w6 B6.out).mono ?_; rintro e w7 ⟨⟨u7, L7, rfl, o7, t7⟩, b7⟩
  have B7 := Lib.hid (below_more B6.out b7)
  have B47 := Lib.hid (below_more B46.out b7)
  have O5 := Lib.hid (ra_below O5.out b7)
  have O6 := Lib.hid (ra_below O6.out b7)
  have O7 := Lib.hid o7.ra
  have T7 := Lib.hid t7
  clear o7 b7 C7 t7
  go_wp2_with fail
  refine (C8.out w7 B7.out).mono ?_; rintro e w8 ⟨⟨u8, L8, rfl, o8, t8⟩, b8⟩
  obtain rfl : L8 = L7 := HW.out _ _ t8 T7.out
  have B8 := Lib.hid (below_more B7.out b8)
  have B48 := Lib.hid (below_more B47.out b8)
  have O5 := Lib.hid (ra_below O5.out b8)
  have O6 := Lib.hid (ra_below O6.out b8)
  have O7 := Lib.hid (ra_below O7.out b8)
  have O8 := Lib.hid o8.ra
  clear o8 b8 C8 t8 T7
  go_wp2_with fail
  refine (C9.out w8 B8.out).mono ?_; rintro e w9 ⟨⟨u9, rfl, o9⟩, b9⟩
  have B9 := Lib.hid (below_more B8.out b9)
  have B49 := Lib.hid (below_more B48.out b9)
  have O5 := Lib.hid (ra_below O5.out b9)
  have O6 := Lib.hid (ra_below O6.out b9)
  have O7 := Lib.hid (ra_below O7.out b9)
  have O8 := Lib.hid (ra_below O8.out b9)
  have O9 := Lib.hid o9.ra
  have C12 := Lib.hid (edits_same_b (ra_below O1.out B49.out) (ra_below O2.out B49.out))
  clear o9 b9 C9 O1 O2
  go_wp2_with fail
  refine (C12.out).mono ?_; rintro e w10 ⟨rfl, b10⟩
  have B10 := Lib.hid (below_more B9.out b10)
  have B410 := Lib.hid (below_more B49.out b10)
  have O9 := Lib.hid (ra_below O9.out b10)
  have C13 := Lib.hid (edits_same_b (ra_below O3.out B410.out) (ra_below O4.out B410.out))
  have B910 := Lib.hid b10
  clear b10 C12 O3 O4
  go_wp2_with fail
  refine (C13.out).mono ?_; rintro e w11 ⟨rfl, b11⟩
  have B11 := Lib.hid (below_more B10.out b11)
  have B911 := Lib.hid (below_more B910.out b11)
  have O9 := Lib.hid (ra_below O9.out b11)
  have s1 := run_strConv (ra_below O5.out B911.out)
  have s2 := run_strConv (ra_below O6.out B911.out)
  have C14 := Lib.hid (edits_same_b (ra_below O7.out B911.out) (ra_below O8.out B911.out))
  clear b11 C13 O5 O6 O7 O8
  generalize strOfNums rB = S at *
  go_wp2_with fail
  refine (C14.out).mono ?_; rintro e w12 ⟨rfl, b12⟩
  have B12 := Lib.hid (below_more B11.out b12)
  have O9 := Lib.hid (ra_below O9.out b12)
  clear b12 C14 s1 s2
  go_wp2_with fail
  refine (C10.out w12 B12.out).mono ?_; rintro e w13 ⟨rfl, b13⟩
  have B13 := Lib.hid (below_more B12.out b13)
  have O9 := Lib.hid (ra_below O9.out b13)
  clear b13 C10
  cases R with
  | none =>
    have e1 : isB wl o = false := by unfold isB; rw [HB.out]
    have e2 : (refF wl o n == 0) = false := by unfold refF; rw [HB.out]; rfl
    rw [e2] at C11
    simp only [e1, Option.isSome_none]
    clear e1 e2 HB
    go_wp2_with fail
    refine (C11.out w13 B13.out).mono ?_; rintro e w14 ⟨rfl, b14⟩
    have B14 := Lib.hid (below_more B13.out b14)
    clear b14 C11
    go_wp2_with fail
    refine (awake_any _).mono ?_; rintro e w15 ⟨rfl, b15⟩
    have B15 := Lib.hid (below_more B14.out b15)
    clear b15
    go_wp2_with fail
    go_ret
    exact ⟨rfl, B15.out⟩
  | some l =>
    have C16 := Lib.hid (ris_is o l u9 (isN o l) w13 O9.out rfl)
    have e1 : isB wl o = (isN o l).isSome := by unfold isB; rw [HB.out]
    have e2 : (refF wl o n == 0) = inL o n l := by
      unfold refF
      rw [HB.out]
      simp only
      cases inL o n l <;> rfl
    have hlen := (blkF_len HB.out).1
    have C17 := Lib.hid (fun (w' : World) (hb : Below w13.heap.size w13 w') => rwi_is l o n u9 w' (ra_below O9.out hb) (by omega) (sm_of HB.out))
    rw [e2] at C11
    obtain ⟨z, b, e3, e4, e5⟩ : ∃ (z : Int) (b : Bool), oi (isN o l) = z ∧ (isN o l).isSome = b ∧ decide (z ≥ 0) = b := by
      refine ⟨_, _, rfl, rfl, ?_⟩
      cases isN o l with
      | none => rfl
      | some k => exact decide_eq_true (by simp [oi])
    rw [e3] at C16
    simp only [e1, e4, Option.isSome_some]
    generalize inL o n l = t at *
    clear e1 e2 e3 e4 HB hlen
    have g6 : (b == b) = true := by simp
    have g7 : (t == t) = true := by simp
    go_wp2_with fail
    refine (C16.out).mono ?_; rintro e w14 ⟨rfl, b14⟩
    have B14 := Lib.hid (below_more B13.out b14)
    have B134 := Lib.hid b14
    clear b14 C16
    go_wp2_with fail
    refine (C11.out w14 B14.out).mono ?_; rintro e w15 ⟨rfl, b15⟩
    have B15 := Lib.hid (below_more B14.out b15)
    have B135 := Lib.hid (below_more B134.out b15)
    clear b15 C11
    go_wp2_with fail
    refine (C17.out w15 B135.out).mono ?_; rintro e w16 ⟨rfl, b16⟩
    have B16 := Lib.hid (below_more B15.out b16)
    clear b16 C17
    go_wp2_with fail
    refine (awake_any _).mono ?_; rintro e w17 ⟨rfl, b17⟩
    have B17 := Lib.hid (below_more B16.out b17)
    clear b17
    go_wp2_with fail
    go_ret
    exact ⟨rfl, B17.out⟩

theorem walk (l0 : List Int) (v0 : Value) (a1 : Int) (l2 : List Int) (v2 : Value) (a3 : Int) (l4 : List Int) (v4 : Value) (w : World) (h0 : IntsIn .u64 w v0 l0) (h1 : (Lit.int .i64 a1).wf = true) (h2 : IntsIn .i64 w v2 l2) (h3 : (Lit.int .i64 a3).wf = true) (h4 : RA byE w v4 l4) :
    Calls Try.prog 3 #[v0, .int .i64 a1, v2, .int .i64 a3, v4] w fun e w' => e = .returned (.bool true) ∧ Below w.heap.size w w' := by
  by_cases h : 600 < l0.length ∨ 60 < l2.length ∨ 600 < l4.length
  · obtain ⟨p, c, rfl, _, _, _⟩ := ru_in h0
    obtain ⟨r, f, rfl, _, _, _⟩ := ri_in h2
    obtain ⟨q, d, rfl, _, _⟩ := ra_shape h4
    exact far l0.length l4.length l2.length c d f p q r a1 a3 w h
  · have h' := not_or.1 h
    have h'' := not_or.1 h'.2
    exact near l0 v0 a1 l2 v2 a3 l4 v4 w (ru_in h0) (words_ok (in_wf_u h0)) (ri_in h2) h4 (i64_wf h3) (i64_wf h1) (by omega) (by omega) (by omega)

set_option maxRecDepth 100000 in
theorem lifted (os : Os) (started : os.Started) (H : Type) (enc : TypeId × Value → H) :
    ReturnsInHanded {} Try.checked os 3 .any (Rows.imageFormsSpec.pre6 enc Try.prog Try.f3 Rows.imageFormsRow.domain false) (Rows.imageFormsSpec.post enc Try.prog Try.f3 false true false false) := by
  refine returnsInHanded_of_change (C := Try.checked) own started (by kernel_rfl) Try.func3
    (ChangeSpec.witness6 (enc := enc) (C := Try.checked) false ⟨#[], #[.slice none 0 0, .int .i64 0, .slice none 0 0, .int .i64 0, .slice none 0 0], []⟩ 8 (by kernel_rfl) (by kernel_rfl) (by kernel_rfl) (by kernel_rfl)) ?_
  intro W base args ds gs before hval0 hW hcnd _
  have hval : ∀ (j : Nat) t v, Try.f3.params[j]? = some t → args[j]? = some v → Value.okWide Try.prog W .any base t v := hval0
  have hW' := hW
  have hlt := hW.lt
  obtain ⟨p, q, hA0, hV, hpq, hfz, hnd⟩ := hW
  have hA : DataW.TrodAll enc Try.prog W 0 (fun _ => true) true Try.f3.params.toList args.toList ds p := hA0
  rw [Try.params3] at hA hval
  obtain ⟨v0, vs0, d0, ds0, p0, q0, hargs, rfl, hp, h0, r0⟩ := trodAll_cons hA
  obtain ⟨v1, vs1, d1, ds1, p1, q1, rfl, rfl, rfl, h1, r1⟩ := trodAll_cons r0
  obtain ⟨v2, vs2, d2, ds2, p2, q2, rfl, rfl, rfl, h2, r2⟩ := trodAll_cons r1
  obtain ⟨v3, vs3, d3, ds3, p3, q3, rfl, rfl, rfl, h3, r3⟩ := trodAll_cons r2
  obtain ⟨v4, vs4, d4, ds4, p4, q4, rfl, rfl, rfl, h4, r4⟩ := trodAll_cons r3
  obtain ⟨rfl, rfl, rfl⟩ := trodAll_nil r4
  obtain rfl : args = #[v0, v1, v2, v3, v4] := by cases args; simp_all
  obtain ⟨rfl, rfl⟩ := trodVars_none hV
  have hlt' : ∀ x ∈ before, x.block < W.heap.size := fun x hx => hlt x hx
  obtain ⟨l0, w0⟩ := ints_in Try.underlying22 Try.underlying46 (by kernel_rfl) (hval 0 22 v0 rfl rfl) (fun x hx => hlt' x (by rw [hpq, hp]; simp [hx])) h0
  obtain ⟨a1, rfl, rfl, rfl, w1⟩ := open_int Try.underlying3 (hval 1 3 v1 rfl rfl) h1
  obtain ⟨l2, w2⟩ := ints_in Try.underlying23 Try.underlying3 (by kernel_rfl) (hval 2 23 v2 rfl rfl) (fun x hx => hlt' x (by rw [hpq, hp]; simp [hx])) h2
  obtain ⟨a3, rfl, rfl, rfl, w3⟩ := open_int Try.underlying3 (hval 3 3 v3 rfl rfl) h3
  obtain ⟨l4, w4⟩ := bytes_in (hval 4 24 v4 rfl rfl) h4
  refine (walk l0 v0 a1 l2 v2 a3 l4 v4 W w0 w1 w2 w3 w4).mono fun e W' ⟨he, hb⟩ => ?_
  subst he
  exact ⟨_, rfl, law_post rfl (by kernel_rfl) hW' (by rw [Try.params3]; intro t ht; simp only [List.mem_cons, List.not_mem_nil, or_false] at ht; (repeat' (first | (rcases ht with rfl | ht) | subst ht)) <;> exact ⟨by kernel_rfl, of_decide_eq_true (by kernel_rfl)⟩) rfl hb⟩

theorem over : Rows.imageFormsRow.holds Try.pinned (OpenSpec.ofChange Rows.imageFormsSpec) :=
  OpenClaim.holds_of_wide 3 Try.f3 rfl rfl rfl rfl rfl rfl rfl ⟨rfl, rfl, rfl, rfl, rfl⟩ rfl rfl rfl rfl rfl (by kernel_rfl) Try.func3 (by kernel_rfl)
    (of_decide_eq_true (by kernel_rfl)) (by unfold Func.isWrapper; first | (rw [if_pos (by decide +kernel)]; kernel_rfl) | (rw [if_neg (by decide +kernel)]; exact ⟨rfl, rfl⟩))
    (fun os started H enc _ => lifted os started H enc)

theorem proved : Rows.ImageFormsSaid := over
end Go.Proofs.Ytkfkpjgijepjfaa.imageForms
