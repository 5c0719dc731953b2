/-
  What is taken and given back leaves the blocks as they were; nothing is told beside an error; what was given back cannot be given back again. No conditions.
-/
import Derived.Test.YtkfkpjgijepjfaaZmc
import Derived.Test.YtkfkpjgijepjfaaZma
namespace Go.Proofs.Ytkfkpjgijepjfaa.imageBack
set_option maxRecDepth 100000
open Go.Proofs.Ytkfkpjgijepjfaa Go.ChangeShapes Go.WideShapes Go.ChangeAt Go.RowKit

set_option maxHeartbeats 1000000 in
theorem far (l : List Bk) (p q : Option Addr) (c d M : Nat) (n k : Int) (w : World) (hv : RA blkE w (.slice p l.length c) l) (h : 300 < l.length ∨ 60 < M ∨ mayL n l = false) :
    Calls Try.prog 5 #[.slice p l.length c, .int .i64 n, .int .i64 k, .slice q M d] w fun e w' => e = .returned (.bool true) ∧ Below w.heap.size w w' := by
  by_cases h1 : 300 < l.length
  · clear hv h
    generalize l.length = L at *
    have i1 : (L : Int) > 300 := by omega
    go_enter Try.func5, Try.ntmps5
    go_wp2_with fail
    refine (awake_any _).mono ?_; rintro e w' ⟨rfl, hb⟩
    go_wp2_with fail
    go_ret
    exact ⟨rfl, hb⟩
  have i1 : ¬ (l.length : Int) > 300 := by omega
  by_cases h2 : 60 < M
  · have i2 : (M : Int) > 60 := by omega
    clear hv h
    generalize l.length = L at *
    go_enter Try.func5, Try.ntmps5
    go_wp2_with fail
    refine (awake_any _).mono ?_; rintro e w' ⟨rfl, hb⟩
    go_wp2_with fail
    go_ret
    exact ⟨rfl, hb⟩
  have h3 : mayL n l = false := (h.resolve_left h1).resolve_left h2
  have i2 : ¬ (M : Int) > 60 := by omega
  have C := Lib.hid (rmay_is n l _ false w hv (by omega) h3)
  clear hv h h1 h2 h3
  generalize l.length = L at *
  go_enter Try.func5, Try.ntmps5
  go_wp2_with fail
  refine (C.out).mono ?_; rintro e w1 ⟨rfl, b1⟩
  have D1 := Lib.hid b1
  clear b1
  go_wp2_with fail
  refine (awake_any _).mono ?_; rintro e w2 ⟨rfl, b2⟩
  have D2 := Lib.hid (below_more D1.out b2)
  clear b2
  go_wp2_with fail
  go_ret
  exact ⟨rfl, D2.out⟩

set_option maxHeartbeats 4000000 in
theorem near (l : List Bk) (p q : Option Addr) (c d : Nat) (n k : Int) (cs : List Int) (w : World) (hv : RA blkE w (.slice p l.length c) l) (hc : RI w (.slice q cs.length d) cs) (h1 : l.length ≤ 300) (h2 : cs.length ≤ 60) (h3 : mayL n l = true) :
    Calls Try.prog 5 #[.slice p l.length c, .int .i64 n, .int .i64 k, .slice q cs.length d] w fun e w' => e = .returned (.bool true) ∧ Below w.heap.size w w' := by
  obtain ⟨n, rfl⟩ : ∃ m : Nat, n = m := ⟨n.toNat, by obtain ⟨⟨h, _⟩, _⟩ := mayL_yes.1 h3; omega⟩
  obtain ⟨_, hn5, _⟩ := (mayL_yes.1 h3).1
  have hn8 := (mayL_yes.1 h3).1.1
  have i1 : ¬ (l.length : Int) > 300 := by omega
  have i2 : ¬ (cs.length : Int) > 60 := by omega
  have C1 := Lib.hid (rmay_is n l _ true w hv (by omega) h3)
  have C2 := Lib.hid (fun (w' : World) (hb : Below w.heap.size w w') => headers_is n l _ w' (ra_below hv hb) h3)
  have hWl : (wrF (List.replicate n 0) l).length = n := by rw [wrF_length, List.length_replicate]
  have hWk : WordsOk (wrF (List.replicate n 0) l) := wrF_ok _ _ (zeros_ok n)
  have hWb : blkF (wrF (List.replicate n 0) l) = some l := blkF_wrF (by rw [List.length_replicate]; exact h3)
  have CA : Hid (∀ v w', RU w' v (wrF (List.replicate n 0) l) → Below w.heap.size w w' → _) := Lib.hid (fun v w' (hr : RU w' v (wrF (List.replicate n 0) l)) (hb : Below w.heap.size w w') => al_is _ k cs v (.slice q cs.length d) w' hr (by omega) hWk (ri_below hc hb))
  have HVB := Lib.hid (fun (w' : World) (hb : Below w.heap.size w w') => ra_below hv hb)
  generalize hW0 : wrF (List.replicate n 0) l = W0 at *
  by_cases hN : needN k = 0
  · rw [alR_arg hN] at CA
    clear hv hc h1 h2 h3 hWl hWk hWb hN hW0 HVB
    simp only at CA
    generalize l.length = L at *
    generalize cs.length = M at *
    go_enter Try.func5, Try.ntmps5
    go_wp2_with fail
    refine (C1.out).mono ?_; rintro e w1 ⟨rfl, b1⟩
    have D1 := Lib.hid b1
    clear b1 C1
    go_wp2_with fail
    refine (C2.out w1 D1.out).mono ?_; rintro e w2 ⟨⟨c2, rfl, o2⟩, b2⟩
    have D2 := Lib.hid (below_more D1.out b2)
    have O2 := Lib.hid o2.ru
    clear b2 o2 C2
    go_wp2_with fail
    refine (CA.out _ _ O2.out D2.out).mono ?_; rintro e w3 ⟨⟨v3, rfl, o3⟩, b3⟩
    have D3 := Lib.hid (below_more D2.out b3)
    obtain ⟨p3, c3, rfl, _, _⟩ := o3.shape
    clear b3 CA o3
    simp only [List.length_nil]
    go_wp2_with fail
    refine (awake_any _).mono ?_; rintro e w4 ⟨rfl, b4⟩
    have D4 := Lib.hid (below_more D3.out b4)
    clear b4
    go_wp2_with fail
    go_ret
    exact ⟨rfl, D4.out⟩
  obtain ⟨hN2, _⟩ := need_two hN
  cases hR : chN (needN k) cs l with
  | none =>
    rw [alR_none hWb hN hR] at CA
    clear hv hc h1 h2 h3 hWl hWk hWb hN hW0 HVB hR hN2
    simp only at CA
    generalize l.length = L at *
    generalize cs.length = M at *
    go_enter Try.func5, Try.ntmps5
    go_wp2_with fail
    refine (C1.out).mono ?_; rintro e w1 ⟨rfl, b1⟩
    have D1 := Lib.hid b1
    clear b1 C1
    go_wp2_with fail
    refine (C2.out w1 D1.out).mono ?_; rintro e w2 ⟨⟨c2, rfl, o2⟩, b2⟩
    have D2 := Lib.hid (below_more D1.out b2)
    have O2 := Lib.hid o2.ru
    clear b2 o2 C2
    go_wp2_with fail
    refine (CA.out _ _ O2.out D2.out).mono ?_; rintro e w3 ⟨⟨v3, rfl, o3⟩, b3⟩
    have D3 := Lib.hid (below_more D2.out b3)
    obtain ⟨p3, c3, rfl, _, _⟩ := o3.shape
    clear b3 CA o3
    simp only [List.length_nil]
    go_wp2_with fail
    refine (awake_any _).mono ?_; rintro e w4 ⟨rfl, b4⟩
    have D4 := Lib.hid (below_more D3.out b4)
    clear b4
    go_wp2_with fail
    go_ret
    exact ⟨rfl, D4.out⟩
  | some g =>
    obtain ⟨hg, hcan, hgu, _, _⟩ := chN_can h3 hR hN2
    rw [alR_some hWb hN hR] at CA
    simp only at CA
    generalize needN k = N at *
    have hT := taken hWb hWk hcan
    have hEl := ced_len h3 hcan
    obtain ⟨ht1, z, t, m, hgz, _, _, hgt, ht2⟩ := hT
    obtain ⟨hm1, hm2⟩ := mrg_crv h3 hcan
    have hmay1 := blkF_some ht1
    have hlen1 := crv_length hcan
    have hg1 : g < (crvF l g N).length := by rw [hlen1]; split <;> omega
    have hO : offB (atL l g) = offB ((crvF l g N).getD g default).a := by
      rw [hgt, atL, hgz]
    have his1 : isN (offB (atL l g)) (crvF l g N) = some g := by
      rw [hO]
      exact isN_at hmay1 hg1 (by rw [hgt])
    have hG := given ht1 ht2.ok hm1
    rw [hm2] at hG
    obtain ⟨hG1, hG2, hG3, _⟩ := hG
    have his2 : isN (offB (atL l g)) l = none := by
      refine isN_no fun b hb => ?_
      rintro ⟨hu, ho⟩
      obtain ⟨j, hj, rfl⟩ := List.getElem_of_mem hb
      have hb2 := mayF_sizes (mayL_yes.1 h3).2 _ hb
      have hg2 := at_in h3 hg
      have e1 : l[j] = l.getD j default := by rw [List.getD_eq_getElem?_getD, List.getElem?_eq_getElem hj]; rfl
      rw [e1] at hu ho hb2
      obtain ⟨⟨q1, _⟩, q2, q3⟩ := hb2
      obtain ⟨⟨q4, _⟩, q5, q6⟩ := hg2
      rw [atL, offB_at q2 (by omega), offB_at q5 (by omega)] at ho
      have := apart_a h3 hj hg (by omega)
      subst this
      rw [hgu] at hu
      cases hu
    have CF1 := Lib.hid (fun v w' (hr : RU w' v (appF W0 (cedF l g N))) => fr_is _ (offB (atL l g)) v w' hr (by rw [ht2.len]; omega) ht2.ok)
    rw [frR_some ht1 his1] at CF1
    have CP1 := Lib.hid (fun v u w' (hr : RU w' v W0) (hu : RA edE w' u (cedF l g N)) => rapply_is W0 _ v u w' hr hu (by omega) (by omega) (by omega))
    have CP2 := Lib.hid (fun v u w' (hr : RU w' v (appF W0 (cedF l g N))) (hu : RA edE w' u [medF (crvF l g N) g]) => rapply_is _ _ v u w' hr hu (by rw [ht2.len]; omega) (by rw [ht2.len]; omega) (by simp))
    have CB := Lib.hid (fun v w' (hr : RU w' v (appF (appF W0 (cedF l g N)) [medF (crvF l g N) g])) => blocks_is _ v (some l) w' hr (by rw [hG2, ht2.len]; omega) hG3 hG1)
    have CF2 := Lib.hid (fun v w' (hr : RU w' v (appF (appF W0 (cedF l g N)) [medF (crvF l g N) g])) => fr_is _ (offB (atL l g)) v w' hr (by rw [hG2, ht2.len]; omega) hG3)
    rw [frR_none hG1 his2] at CF2
    simp only [Option.isSome_some, Option.getD_some] at CB CF1 CF2
    have SB := Lib.hid (fun (v : Value) (w' : World) (hb : Below w.heap.size w w') (h : RA blkE w' v l) => blks_same h (HVB.out w' hb))
    clear hv hc h1 h2 h3 hWl hWk hWb hN hW0 HVB hR hN2 hg hcan hgu hEl ht1 ht2 hm1 hm2 hmay1 hlen1 hg1 hO his1 hG1 hG2 hG3 his2 hgt hgz
    generalize appF (appF W0 (cedF l g N)) [medF (crvF l g N) g] = W2 at *
    generalize appF W0 (cedF l g N) = W1 at *
    generalize medF (crvF l g N) g = X at *
    generalize cedF l g N = E at *
    generalize offB (atL l g) = O at *
    generalize l.length = L at *
    generalize cs.length = M at *
    go_enter Try.func5, Try.ntmps5
    go_wp2_with fail
    refine (C1.out).mono ?_; rintro e w1 ⟨rfl, b1⟩
    have D1 := Lib.hid b1
    clear b1 C1
    go_wp2_with fail
    refine (C2.out w1 D1.out).mono ?_; rintro e w2 ⟨⟨c2, rfl, o2⟩, b2⟩
    have D2 := Lib.hid (below_more D1.out b2)
    have O2 := Lib.hid o2.ru
    clear b2 o2 C2
    go_wp2_with fail
    refine (CA.out _ _ O2.out D2.out).mono ?_; rintro e w3 ⟨⟨v3, rfl, o3⟩, b3⟩
    have D3 := Lib.hid (below_more D2.out b3)
    have O2 := Lib.hid (ru_below O2.out b3)
    have O3 := Lib.hid o3.ra
    clear b3 CA o3
    go_wp2_with fail
    refine (CP1.out _ _ _ O2.out O3.out).mono ?_; rintro e w4 ⟨⟨v4, rfl, o4⟩, b4⟩
    have D4 := Lib.hid (below_more D3.out b4)
    have O4 := Lib.hid o4.ru
    clear b4 o4 CP1 O2 O3
    go_wp2_with fail
    refine (CF1.out _ _ O4.out).mono ?_; rintro e w5 ⟨⟨v5, rfl, o5⟩, b5⟩
    have D5 := Lib.hid (below_more D4.out b5)
    have O4 := Lib.hid (ru_below O4.out b5)
    obtain ⟨p5, c5, rfl, _, _⟩ := o5.shape
    have O5 := Lib.hid o5.ra
    simp only [List.length_singleton] at O5 ⊢
    clear b5 o5 CF1
    go_wp2_with fail
    refine (CP2.out _ _ _ O4.out O5.out).mono ?_; rintro e w6 ⟨⟨v6, rfl, o6⟩, b6⟩
    have D6 := Lib.hid (below_more D5.out b6)
    have O4 := Lib.hid (ru_below O4.out b6)
    have O5 := Lib.hid (ra_below O5.out b6)
    have O6 := Lib.hid o6.ru
    clear b6 o6
    go_wp2_with fail
    refine (CB.out _ _ O6.out).mono ?_; rintro e w7 ⟨⟨v7, rfl, o7⟩, b7⟩
    have D7 := Lib.hid (below_more D6.out b7)
    have O4 := Lib.hid (ru_below O4.out b7)
    have O5 := Lib.hid (ra_below O5.out b7)
    have O7 := Lib.hid o7.ra
    clear b7 o7 CB O6
    go_wp2_with fail
    refine (CP2.out _ _ _ O4.out O5.out).mono ?_; rintro e w8 ⟨⟨v8, rfl, o8⟩, b8⟩
    have D8 := Lib.hid (below_more D7.out b8)
    have O7 := Lib.hid (ra_below O7.out b8)
    have O8 := Lib.hid o8.ru
    clear b8 o8 CP2 O4 O5
    go_wp2_with fail
    refine (CF2.out _ _ O8.out).mono ?_; rintro e w9 ⟨⟨v9, rfl, o9⟩, b9⟩
    have D9 := Lib.hid (below_more D8.out b9)
    have O7 := Lib.hid (ra_below O7.out b9)
    clear b9 o9 CF2 O8
    go_wp2_with fail
    refine (SB.out _ _ D9.out O7.out).mono ?_; rintro e w10 ⟨rfl, nn, rfl⟩
    have D10 := Lib.hid (below_drewN D9.out nn)
    go_wp2_with fail
    refine (awake_any _).mono ?_; rintro e w11 ⟨rfl, b11⟩
    have D11 := Lib.hid (below_more D10.out b11)
    clear b11
    go_wp2_with fail
    go_ret
    exact ⟨rfl, D11.out⟩

theorem walk (l0 : List Bk) (v0 : Value) (a1 a2 : Int) (l3 : List Int) (v3 : Value) (w : World) (h0 : RA blkE w v0 l0) (_h1 : (Lit.int .i64 a1).wf = true) (_h2 : (Lit.int .i64 a2).wf = true) (h3 : IntsIn .i64 w v3 l3) :
    Calls Try.prog 5 #[v0, .int .i64 a1, .int .i64 a2, v3] w fun e w' => e = .returned (.bool true) ∧ Below w.heap.size w w' := by
  obtain ⟨p, c, rfl, _, _⟩ := ra_shape h0
  have h3' := ri_in h3
  obtain ⟨q, d, rfl, _, _, _⟩ := id h3'
  by_cases h : 300 < l0.length ∨ 60 < l3.length ∨ mayL a1 l0 = false
  · exact far l0 p q c d l3.length a1 a2 w h0 h
  · have h' := not_or.1 h
    have h'' := not_or.1 h'.2
    exact near l0 p q c d a1 a2 l3 w h0 h3' (by omega) (by omega) (by simpa using h''.2)

set_option maxRecDepth 100000 in
theorem lifted (os : Os) (started : os.Started) (H : Type) (enc : TypeId × Value → H) :
    ReturnsInHanded {} Try.checked os 5 .any (Rows.imageBackSpec.pre6 enc Try.prog Try.f5 Rows.imageBackRow.domain false) (Rows.imageBackSpec.post enc Try.prog Try.f5 false true false false) := by
  refine returnsInHanded_of_change (C := Try.checked) own started (by kernel_rfl) Try.func5
    (ChangeSpec.witness6 (enc := enc) (C := Try.checked) false ⟨#[], #[.slice none 0 0, .int .i64 0, .int .i64 0, .slice none 0 0], []⟩ 8 (by kernel_rfl) (by kernel_rfl) (by kernel_rfl) (by kernel_rfl)) ?_
  intro W base args ds gs before hval0 hW hcnd _
  have hval : ∀ (j : Nat) t v, Try.f5.params[j]? = some t → args[j]? = some v → Value.okWide Try.prog W .any base t v := hval0
  have hW' := hW
  have hlt := hW.lt
  obtain ⟨p, q, hA0, hV, hpq, hfz, hnd⟩ := hW
  have hA : DataW.TrodAll enc Try.prog W 0 (fun _ => true) true Try.f5.params.toList args.toList ds p := hA0
  rw [Try.params5] at hA hval
  obtain ⟨v0, vs0, d0, ds0, p0, q0, hargs, rfl, hp, h0, r0⟩ := trodAll_cons hA
  obtain ⟨v1, vs1, d1, ds1, p1, q1, rfl, rfl, rfl, h1, r1⟩ := trodAll_cons r0
  obtain ⟨v2, vs2, d2, ds2, p2, q2, rfl, rfl, rfl, h2, r2⟩ := trodAll_cons r1
  obtain ⟨v3, vs3, d3, ds3, p3, q3, rfl, rfl, rfl, h3, r3⟩ := trodAll_cons r2
  obtain ⟨rfl, rfl, rfl⟩ := trodAll_nil r3
  obtain rfl : args = #[v0, v1, v2, v3] := by cases args; simp_all
  obtain ⟨rfl, rfl⟩ := trodVars_none hV
  have hlt' : ∀ x ∈ before, x.block < W.heap.size := fun x hx => hlt x hx
  obtain ⟨l0, w0⟩ := blocks_in (hval 0 35 v0 rfl rfl) h0
  obtain ⟨a1, rfl, rfl, rfl, w1⟩ := open_int Try.underlying3 (hval 1 3 v1 rfl rfl) h1
  obtain ⟨a2, rfl, rfl, rfl, w2⟩ := open_int Try.underlying3 (hval 2 3 v2 rfl rfl) h2
  obtain ⟨l3, w3⟩ := ints_in Try.underlying23 Try.underlying3 (by kernel_rfl) (hval 3 23 v3 rfl rfl) (fun x hx => hlt' x (by rw [hpq, hp]; simp [hx])) h3
  refine (walk l0 v0 a1 a2 l3 v3 W w0 w1 w2 w3).mono fun e W' ⟨he, hb⟩ => ?_
  subst he
  exact ⟨_, rfl, law_post rfl (by kernel_rfl) hW' (by rw [Try.params5]; intro t ht; simp only [List.mem_cons, List.not_mem_nil, or_false] at ht; (repeat' (first | (rcases ht with rfl | ht) | subst ht)) <;> exact ⟨by kernel_rfl, of_decide_eq_true (by kernel_rfl)⟩) rfl hb⟩

theorem over : Rows.imageBackRow.holds Try.pinned (OpenSpec.ofChange Rows.imageBackSpec) :=
  OpenClaim.holds_of_wide 5 Try.f5 rfl rfl rfl rfl rfl rfl rfl ⟨rfl, rfl, rfl, rfl, rfl⟩ rfl rfl rfl rfl rfl (by kernel_rfl) Try.func5 (by kernel_rfl)
    (of_decide_eq_true (by kernel_rfl)) (by unfold Func.isWrapper; first | (rw [if_pos (by decide +kernel)]; kernel_rfl) | (rw [if_neg (by decide +kernel)]; exact ⟨rfl, rfl⟩))
    (fun os started H enc _ => lifted os started H enc)

theorem proved : Rows.ImageBackSaid := over
end Go.Proofs.Ytkfkpjgijepjfaa.imageBack
