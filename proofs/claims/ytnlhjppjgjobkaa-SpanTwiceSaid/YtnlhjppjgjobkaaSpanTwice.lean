/-
  Bytes written in two parts are as written in one; written again they are the same. No conditions.
-/
import Derived.Test.YtnlhjppjgjobkaaSpv
import Derived.Test.YtnlhjppjgjobkaaSpx
import Derived.Test.YtnlhjppjgjobkaaWsm
namespace Go.Proofs.Ytnlhjppjgjobkaa.spanTwice
set_option maxRecDepth 100000
open Go.Proofs.Ytnlhjppjgjobkaa Go.ChangeShapes Go.WideShapes Go.ChangeAt Go.RowKit

theorem place8 (a : Int) (L : Nat) (h0 : 0 < L) (h1 : L ≤ 200) : ∃ u N O : Nat, IntKind.i64.wrap (8 * (L : Int)) = (N : Int) ∧ IntKind.u64.wrap a = (u : Int) ∧ IntKind.u64.wrap (N : Int) = (N : Int) ∧ ¬ N = 0 ∧ (u : Int).tmod (N : Int) = (O : Int) ∧ IntKind.i64.wrap (O : Int) = (O : Int) ∧ O < N ∧ N = 8 * L := by
  obtain ⟨u, hu, _⟩ := u64_nat a
  have hlt : u % (8 * L) < 8 * L := Nat.mod_lt _ (by omega)
  refine ⟨u, 8 * L, u % (8 * L), by rw [show 8 * (L : Int) = ((8 * L : Nat) : Int) by omega]; exact i64_nat _ (by omega), hu, by rw [IntKind.wrap_u64]; omega, by omega, tmod_nat u (8 * L), i64_nat _ (by omega), hlt, rfl⟩
theorem part1 (a : Int) (B : Nat) (h1 : B ≤ 448) : ∃ u M k : Nat, IntKind.i64.wrap ((B : Int) + 1) = (M : Int) ∧ IntKind.u64.wrap a = (u : Int) ∧ IntKind.u64.wrap (M : Int) = (M : Int) ∧ ¬ M = 0 ∧ (u : Int).tmod (M : Int) = (k : Int) ∧ IntKind.i64.wrap (k : Int) = (k : Int) ∧ k ≤ B := by
  obtain ⟨u, hu, _⟩ := u64_nat a
  have hlt : u % (B + 1) < B + 1 := Nat.mod_lt _ (by omega)
  refine ⟨u, B + 1, u % (B + 1), by rw [show (B : Int) + 1 = ((B + 1 : Nat) : Int) by omega]; exact i64_nat _ (by omega), hu, by rw [IntKind.wrap_u64]; omega, by omega, tmod_nat u (B + 1), i64_nat _ (by omega), by omega⟩
theorem written {wl bl : List Int} {O k : Nat} {L1 L2 L3 : List Ed} (hw : ∀ x ∈ wl, Wd x) (hon : O + bl.length ≤ 8 * wl.length) (hk : k ≤ bl.length) (h1 : IsE wl O bl.length (fun j => bl.getD j 0) L1)
    (h2 : IsE wl O k (fun j => (bl.take k).getD j 0) L2) (h3 : IsE (appF wl L2) (O + k) (bl.length - k) (fun j => (bl.drop k).getD j 0) L3) : appF (appF wl L2) L3 = appF wl L1 := by
  obtain ⟨a1, a2⟩ := appF_isE h1 hw hon
  obtain ⟨b1, b2⟩ := appF_isE h2 hw (by omega)
  obtain ⟨c1, c2⟩ := appF_isE h3 b1 (by rw [appF_length]; omega)
  refine words_ext (by simp only [appF_length]) c1 a1 fun p hp => ?_
  rw [appF_length, appF_length] at hp
  rw [c2 p (by rw [appF_length]; exact hp), a2 p hp]
  unfold tgt
  by_cases q1 : O + k ≤ p ∧ p < O + k + (bl.length - k)
  · rw [if_pos q1, if_pos (by omega)]
    show (bl.drop k).getD _ 0 = bl.getD _ 0
    rw [List.getD_eq_getElem?_getD, List.getElem?_drop, ← List.getD_eq_getElem?_getD]
    congr 1; omega
  · rw [if_neg q1, b2 p hp]
    unfold tgt
    by_cases q2 : O ≤ p ∧ p < O + k
    · rw [if_pos q2, if_pos (by omega)]
      show (bl.take k).getD _ 0 = bl.getD _ 0
      rw [List.getD_eq_getElem?_getD, List.getElem?_take, if_pos (by omega), ← List.getD_eq_getElem?_getD]
    · rw [if_neg q2, if_neg (by omega)]
theorem again {wl bl : List Int} {O : Nat} {L1 L4 : List Ed} (hw : ∀ x ∈ wl, Wd x) (hon : O + bl.length ≤ 8 * wl.length) (h1 : IsE wl O bl.length (fun j => bl.getD j 0) L1)
    (h4 : IsE (appF wl L1) O bl.length (fun j => bl.getD j 0) L4) : appF (appF wl L1) L4 = appF wl L1 := by
  obtain ⟨a1, a2⟩ := appF_isE h1 hw hon
  obtain ⟨c1, c2⟩ := appF_isE h4 a1 (by rw [appF_length]; omega)
  refine words_ext (by simp only [appF_length]) c1 a1 fun p hp => ?_
  rw [appF_length, appF_length] at hp
  rw [c2 p (by rw [appF_length]; exact hp), a2 p hp]
  unfold tgt
  by_cases q1 : O ≤ p ∧ p < O + bl.length
  · rw [if_pos q1, if_pos q1]
  · rw [if_neg q1, a2 p hp]
    unfold tgt
    rw [if_neg q1]
theorem cnt_le (O n : Nat) (h : n ≤ 448) : cnt O n ≤ 1000 := by
  unfold cnt
  split <;> omega
set_option maxHeartbeats 1000000 in
theorem far (L B c d : Nat) (p q : Option Addr) (o t : Int) (w : World) (h : 200 < L ∨ L = 0 ∨ 448 < B) :
    Calls Try.prog 6 #[.slice p L c, .int .i64 o, .slice q B d, .int .i64 t] w fun e w' => e = .returned (.bool true) ∧ Below w.heap.size w w' := by
  by_cases h1 : 200 < L
  · have i1 : (L : Int) > 200 := by omega
    clear h
    go_enter Try.func6, Try.ntmps6
    go_wp2_with fail
    refine (awake_any _).mono ?_; rintro e w' ⟨rfl, hb⟩
    go_wp2_with fail
    go_ret
    exact ⟨rfl, hb⟩
  · have i1 : ¬ (L : Int) > 200 := by omega
    by_cases h2 : L = 0
    · subst h2
      clear h h1
      go_enter Try.func6, Try.ntmps6
      go_wp2_with fail
      refine (awake_any _).mono ?_; rintro e w' ⟨rfl, hb⟩
      go_wp2_with fail
      go_ret
      exact ⟨rfl, hb⟩
    · have i2 : ((L : Int) == 0) = false := beq_eq_false_iff_ne.2 (by omega)
      have i3 : (B : Int) > 448 := by omega
      clear h h1
      go_enter Try.func6, Try.ntmps6
      go_wp2_with fail
      refine (awake_any _).mono ?_; rintro e w' ⟨rfl, hb⟩
      go_wp2_with fail
      go_ret
      exact ⟨rfl, hb⟩
set_option maxHeartbeats 4000000 in
theorem beyond (L B c d : Nat) (p q : Option Addr) (o t : Int) (w : World) (h1 : L ≤ 200) (h0 : 0 < L) (hB : B ≤ 448) (u N O : Nat) (t1 : IntKind.i64.wrap (8 * (L : Int)) = (N : Int)) (t2 : IntKind.u64.wrap o = (u : Int)) (t3 : IntKind.u64.wrap (N : Int) = (N : Int)) (t4 : ¬ N = 0)
    (t5 : (u : Int).tmod (N : Int) = (O : Int)) (t6 : IntKind.i64.wrap (O : Int) = (O : Int)) (hO : O < N) (hN : N = 8 * L) (h : N < O + B) :
    Calls Try.prog 6 #[.slice p L c, .int .i64 o, .slice q B d, .int .i64 t] w fun e w' => e = .returned (.bool true) ∧ Below w.heap.size w w' := by
  have i1 : ¬ (L : Int) > 200 := by omega
  have i2 : ((L : Int) == 0) = false := beq_eq_false_iff_ne.2 (by omega)
  have i3 : ¬ (B : Int) > 448 := by omega
  have i4 : ¬ L > 200 := by omega
  have i5 : ¬ L = 0 := by omega
  have i6 : ¬ B > 448 := by omega
  obtain ⟨S, hS⟩ : ∃ S, O + B = S := ⟨_, rfl⟩
  have t7 : IntKind.i64.wrap ((O : Int) + (B : Int)) = (S : Int) := by rw [show (O : Int) + (B : Int) = (S : Int) by omega]; exact i64_nat _ (by omega)
  have i7 : (S : Int) > (N : Int) := by omega
  have i8 : S > N := by omega
  clear h1 h0 hB hO hN h hS
  go_enter Try.func6, Try.ntmps6
  go_wp2_with fail
  refine (awake_any _).mono ?_; rintro e w' ⟨rfl, hb⟩
  go_wp2_with fail
  go_ret
  exact ⟨rfl, hb⟩
set_option maxHeartbeats 4000000 in
theorem near (wl bl : List Int) (c d : Nat) (p q : Option Addr) (o t : Int) (w : World) (hv : RU w (.slice p wl.length c) wl) (hw : ∀ x ∈ wl, Wd x) (hb : RA byE w (.slice q bl.length d) bl) (h1 : wl.length ≤ 200) (h0 : 0 < wl.length) (hB : bl.length ≤ 448)
    (u N O : Nat) (t1 : IntKind.i64.wrap (8 * (wl.length : Int)) = (N : Int)) (t2 : IntKind.u64.wrap o = (u : Int)) (t3 : IntKind.u64.wrap (N : Int) = (N : Int)) (t4 : ¬ N = 0)
    (t5 : (u : Int).tmod (N : Int) = (O : Int)) (t6 : IntKind.i64.wrap (O : Int) = (O : Int)) (hO : O < N) (hN : N = 8 * wl.length) (h : ¬ N < O + bl.length)
    (u2 M k : Nat) (s1 : IntKind.i64.wrap ((bl.length : Int) + 1) = (M : Int)) (s2 : IntKind.u64.wrap t = (u2 : Int)) (s3 : IntKind.u64.wrap (M : Int) = (M : Int)) (s4 : ¬ M = 0)
    (s5 : (u2 : Int).tmod (M : Int) = (k : Int)) (s6 : IntKind.i64.wrap (k : Int) = (k : Int)) (hk : k ≤ bl.length) (hdl : bl.length ≤ d) (hdm : d ≤ maxLen) :
    Calls Try.prog 6 #[.slice p wl.length c, .int .i64 o, .slice q bl.length d, .int .i64 t] w fun e w' => e = .returned (.bool true) ∧ Below w.heap.size w w' := by
  have i1 : ¬ (wl.length : Int) > 200 := by omega
  have i2 : ((wl.length : Int) == 0) = false := beq_eq_false_iff_ne.2 (by omega)
  have i3 : ¬ (bl.length : Int) > 448 := by omega
  have i4 : ¬ wl.length > 200 := by omega
  have i5 : ¬ wl.length = 0 := by omega
  have i6 : ¬ bl.length > 448 := by omega
  obtain ⟨S, hS⟩ : ∃ S, O + bl.length = S := ⟨_, rfl⟩
  have t7 : IntKind.i64.wrap ((O : Int) + (bl.length : Int)) = (S : Int) := by rw [show (O : Int) + (bl.length : Int) = (S : Int) by omega]; exact i64_nat _ (by omega)
  have i7 : ¬ (S : Int) > (N : Int) := by omega
  have i8 : ¬ S > N := by omega
  obtain ⟨P, hP⟩ : ∃ P, O + k = P := ⟨_, rfl⟩
  have t8 : IntKind.i64.wrap ((O : Int) + (k : Int)) = (P : Int) := by rw [show (O : Int) + (k : Int) = (P : Int) by omega]; exact i64_nat _ (by omega)
  have k1 : (0 : Int) ≤ (k : Int) := by omega
  have k2 : (k : Int) ≤ (bl.length : Int) := by omega
  have k3 : (k : Int) ≤ (d : Int) := by omega
  have k4 : k ≤ bl.length := hk
  have k5 : k ≤ d := by omega
  have hb1 : ∀ w', Below w.heap.size w w' → RA byE w' (.slice q k d) (bl.take k) := fun w' hb' => by
    have := ra_take (ra_below hb hb') k
    rwa [Nat.min_eq_left hk] at this
  have hdr : (bl.drop k).length = bl.length - k := List.length_drop
  have htk : (bl.take k).length = k := by rw [List.length_take]; omega
  have C1 := Lib.hid (edits_yes wl bl _ _ O w hv hb hw (by omega) hB (by omega))
  have C2 := Lib.hid (fun (w' : World) (hb' : Below w.heap.size w w') => edits_yes wl (bl.take k) _ _ O w' (ru_below hv hb') (hb1 w' hb') hw (by omega) (by omega) (by omega))
  rw [htk] at C2
  have C3 := Lib.hid (fun (w' : World) (hb' : Below w.heap.size w w') (es : List Ed) (y : Value) (he : RA edE w' y es) (hel : es.length ≤ 4000) => apply_is wl es _ y w' (ru_below hv hb') he (by omega) hel)
  have HBd := Lib.hid (fun (w' : World) (hb' : Below w.heap.size w w') => ra_below hb hb')
  have HW := Lib.hid hw
  have HL := Lib.hid (And.intro h1 (And.intro hB (And.intro hk (show O + bl.length ≤ 8 * wl.length by omega))))
  have HPe := Lib.hid hP
  have HSe := Lib.hid hS
  have HDl := Lib.hid (And.intro hdl hdm)
  have HDr := Lib.hid (And.intro hdr htk)
  clear hv hw hb h1 h0 hB hO hN h hk hdl hdm hb1 hdr htk hS hP
  obtain ⟨Lw, hLw⟩ : ∃ L, wl.length = L := ⟨_, rfl⟩
  obtain ⟨B, hBn⟩ : ∃ L, bl.length = L := ⟨_, rfl⟩
  rw [hLw] at C1 C2 C3 HL i1 i2 i4 i5 t1 ⊢
  rw [hBn] at C1 HSe HBd HL HDl HDr s1 t7 i3 i6 k2 k4 ⊢
  have HLw := Lib.hid hLw
  have HBn := Lib.hid hBn
  clear hLw hBn
  go_enter Try.func6, Try.ntmps6
  go_wp2_with fail
  refine (C1.out).mono ?_; rintro e w1 ⟨⟨u1, L1, rfl, o1, e1⟩, b1⟩
  have l1 : L1.length ≤ 1000 := by rw [e1.len]; exact cnt_le _ _ (by have := HL.out; omega)
  have B1 := Lib.hid b1
  have O10 := Lib.hid o1.ra
  have E1 := Lib.hid e1
  have HZw := (appF_isE e1 HW.out (by rw [HLw.out]; exact HL.out.2.2.2)).1
  have haZ := appF_length L1 wl
  obtain ⟨Z, hZ⟩ : ∃ Z, appF wl L1 = Z := ⟨_, rfl⟩
  rw [hZ] at HZw haZ
  rw [HLw.out] at haZ
  have HaZ := Lib.hid haZ
  have C5 := Lib.hid (fun (w' : World) (hb' : Below w.heap.size w w') (y : Value) (he : RA edE w' y L1) => C3.out w' hb' L1 y he (by omega))
  rw [hZ] at C5
  have C6 := Lib.hid (fun (w' : World) (hb' : Below w.heap.size w w') (y : Value) (hy : RU w' y Z) => edits_yes Z bl y _ O w' hy (HBd.out w' hb') HZw (by rw [haZ]; have := HL.out; omega) (by rw [HBn.out]; exact HL.out.2.1) (by rw [HBn.out, haZ]; exact HL.out.2.2.2))
  rw [HBn.out] at C6
  clear o1 e1 b1 C1 l1
  go_wp2_with fail
  refine (C2.out w1 B1.out).mono ?_; rintro e w2 ⟨⟨u2, L2, rfl, o2, e2⟩, b2⟩
  have l2 : L2.length ≤ 1000 := by rw [e2.len]; exact cnt_le _ _ (by have := HL.out; omega)
  have B2 := Lib.hid (below_more B1.out b2)
  have B12 := Lib.hid b2
  have O2 := Lib.hid o2.ra
  have E2 := Lib.hid e2
  have hAw := (appF_isE e2 HW.out (by rw [HLw.out]; have := HL.out; omega)).1
  have ha2 := appF_length L2 wl
  obtain ⟨A2, hA2⟩ : ∃ A, appF wl L2 = A := ⟨_, rfl⟩
  have C3' := Lib.hid (C3.out w2 B2.out L2 u2 o2.ra (by omega))
  rw [hA2] at hAw ha2 C3'
  rw [HLw.out] at ha2
  have Ha2 := Lib.hid ha2
  have HV : Hid (appF wl L2 = A2 ∧ appF wl L1 = Z ∧ O + k = P ∧ (bl.drop k).length = B - k) := Lib.hid ⟨hA2, hZ, HPe.out, HDr.out.1⟩
  have C4 := Lib.hid (fun (w' : World) (hb' : Below w.heap.size w w') (y : Value) (hy : RU w' y A2) (y2 : Value) (hy2 : RA byE w' y2 (bl.drop k)) => edits_yes A2 (bl.drop k) y y2 P w' hy hy2 hAw (by rw [ha2]; have := HL.out; omega) (by rw [HDr.out.1]; have := HL.out; omega) (by rw [HDr.out.1, ha2]; have := HL.out; have := HPe.out; omega))
  clear o2 e2 b2 C2 l2 C3 hA2 hZ hAw ha2 HZw haZ
  go_wp2_with fail
  refine (C3'.out).mono ?_; rintro e w3 ⟨⟨u3, rfl, o3⟩, b3⟩
  obtain ⟨p3, k3', rfl⟩ := o3.shape
  have B3 := Lib.hid (below_more B2.out b3)
  have B13 := Lib.hid (below_more B12.out b3)
  have O3 := Lib.hid o3.ru
  have O1 := Lib.hid O10.out
  rw [Ha2.out] at O3 ⊢
  clear o3 b3 C3' O10 O2
  by_cases ec : d = k
  · have eB : B = k := by have := HDl.out; omega
    have eS : P = S := by have := HPe.out; have := HSe.out; omega
    have VV : Hid (RA byE w3 (.slice q 0 0) (bl.drop k)) := Lib.hid (by
      rw [List.drop_eq_nil_of_le (by rw [HBn.out, eB]; exact Nat.le_refl _)]
      exact ⟨q, 0, rfl, Nat.le_refl _, Nat.zero_le _, (fun _ h => by cases h), .inl rfl⟩)
    subst ec
    subst eB
    subst eS
    go_wp2_with fail
    refine (C4.out w3 B3.out _ O3.out _ VV.out).mono ?_; rintro e w4 ⟨⟨u4, L3, rfl, o4, e4⟩, b4⟩
    rw [HV.out.2.2.2] at e4
    have hZ1 : appF A2 L3 = Z := by
      rw [← HV.out.1, ← HV.out.2.1]
      refine written (wl := wl) (bl := bl) (O := O) HW.out (by rw [HLw.out, HBn.out]; exact HL.out.2.2.2) (by rw [HBn.out]; exact HL.out.2.2.1) (by rw [HBn.out]; exact E1.out) E2.out ?_
      rw [HV.out.1, HBn.out, HV.out.2.2.1]
      exact e4
    have l3 : L3.length ≤ 1000 := by rw [e4.len]; exact cnt_le _ _ (by have := HL.out; omega)
    have B4 := Lib.hid (below_more B3.out b4)
    have O4 := Lib.hid o4.ra
    have O3' := Lib.hid (ru_below O3.out b4)
    have O1' := Lib.hid (ra_below O1.out (below_more B13.out b4))
    have C7' := Lib.hid (fun (w' : World) (hb : Below w4.heap.size w4 w') => apply_is A2 L3 _ u4 w' (ru_below O3'.out hb) (ra_below O4.out hb) (by rw [Ha2.out]; have := HL.out; omega) (by omega))
    rw [hZ1] at C7'
    clear o4 e4 b4 hZ1 l3 C4 O3 O1
    go_wp2_with fail
    refine (C5.out w4 B4.out u1 O1'.out).mono ?_; rintro e w5 ⟨⟨u5, rfl, o5⟩, b5⟩
    obtain ⟨p5, k5, rfl⟩ := o5.shape
    have B5 := Lib.hid (below_more B4.out b5)
    have O5 := Lib.hid o5.ru
    have B45 := Lib.hid b5
    rw [HaZ.out] at O5 ⊢
    clear o5 b5 C5
    go_wp2_with fail
    refine (C6.out w5 B5.out _ O5.out).mono ?_; rintro e w6 ⟨⟨u6, L4, rfl, o6, e6⟩, b6⟩
    have hZ2 : appF Z L4 = Z := by
      rw [← HV.out.2.1]
      refine again (wl := wl) (bl := bl) (O := O) HW.out (by rw [HLw.out, HBn.out]; exact HL.out.2.2.2) (by rw [HBn.out]; exact E1.out) ?_
      rw [HV.out.2.1, HBn.out]
      exact e6
    have l4 : L4.length ≤ 1000 := by rw [e6.len]; exact cnt_le _ _ (by have := HL.out; omega)
    have B6 := Lib.hid (below_more B5.out b6)
    have O6 := Lib.hid o6.ra
    have O5' := Lib.hid (ru_below O5.out b6)
    have C8' := Lib.hid (fun (w' : World) (hb : Below w6.heap.size w6 w') => apply_is Z L4 _ u6 w' (ru_below O5'.out hb) (ra_below O6.out hb) (by rw [HaZ.out]; have := HL.out; omega) (by omega))
    rw [hZ2] at C8'
    have B46 := Lib.hid (below_more B45.out b6)
    clear o6 e6 b6 hZ2 l4 C6 O5
    go_wp2_with fail
    refine (C7'.out w6 B46.out).mono ?_; rintro e w7 ⟨⟨u7, rfl, o7⟩, b7⟩
    obtain ⟨p7, k7, rfl⟩ := o7.shape
    have B7 := Lib.hid (below_more B6.out b7)
    have B67 := Lib.hid b7
    have C9 := Lib.hid (words_same o7.ru (ru_below O5'.out b7))
    rw [HaZ.out] at C9 ⊢
    clear o7 b7 C7'
    go_wp2_with fail
    refine (C9.out).mono ?_; rintro e w8 ⟨rfl, n8, e8⟩
    have B8 : Hid (Below w.heap.size w w8) := Lib.hid (by subst e8; exact below_drewN B7.out n8)
    have B68 : Hid (Below w6.heap.size w6 w8) := Lib.hid (by subst e8; exact below_drewN B67.out n8)
    clear e8 C9
    go_wp2_with fail
    refine (C8'.out w8 B68.out).mono ?_; rintro e w9 ⟨⟨u9, rfl, o9⟩, b9⟩
    obtain ⟨p9, k9, rfl⟩ := o9.shape
    have B9 := Lib.hid (below_more B8.out b9)
    have C10 := Lib.hid (words_same o9.ru (ru_below O5'.out (below_more B68.out b9)))
    rw [HaZ.out] at C10 ⊢
    clear o9 b9 C8'
    go_wp2_with fail
    refine (C10.out).mono ?_; rintro e w10 ⟨rfl, n10, e10⟩
    have B10 : Hid (Below w.heap.size w w10) := Lib.hid (by subst e10; exact below_drewN B9.out n10)
    clear e10 C10
    go_wp2_with fail
    refine (awake_any _).mono ?_; rintro e w11 ⟨rfl, b11⟩
    have B11 := Lib.hid (below_more B10.out b11)
    clear b11
    go_wp2_with fail
    go_ret
    exact ⟨rfl, B11.out⟩
  · obtain ⟨q', hq'⟩ : ∃ q', Option.map (fun x : Addr => x.add k) q = q' := ⟨_, rfl⟩
    have VV : Hid (RA byE w3 (.slice q' (B - k) (d - k)) (bl.drop k)) := Lib.hid (by
      have hr := HBd.out w3 B3.out
      by_cases e : k < B
      · obtain ⟨b, off, e2, _, _⟩ := byte_at hr (by rw [HBn.out]; omega)
        subst e2
        have hd := ra_drop hr (k := k) (by rw [HBn.out]; exact e)
        have ea : (⟨b, off, none⟩ : Addr).add k = ⟨b, off + k, none⟩ := Go.WideShapes.add_plain ..
        rw [Option.map_some, ea] at hq'
        rw [← hq']
        simpa [byE] using hd
      · rw [List.drop_eq_nil_of_le (by rw [HBn.out]; omega), show B - k = 0 by omega]
        exact ⟨q', d - k, rfl, Nat.zero_le _, Nat.le_trans (Nat.sub_le _ _) HDl.out.2, (fun _ h => by cases h), .inl rfl⟩)
    go_wp2_with fail
    refine (C4.out w3 B3.out _ O3.out _ VV.out).mono ?_; rintro e w4 ⟨⟨u4, L3, rfl, o4, e4⟩, b4⟩
    rw [HV.out.2.2.2] at e4
    have hZ1 : appF A2 L3 = Z := by
      rw [← HV.out.1, ← HV.out.2.1]
      refine written (wl := wl) (bl := bl) (O := O) (k := k) HW.out (by rw [HLw.out, HBn.out]; exact HL.out.2.2.2) (by rw [HBn.out]; exact HL.out.2.2.1) (by rw [HBn.out]; exact E1.out) E2.out ?_
      rw [HV.out.1, HBn.out, HV.out.2.2.1]
      exact e4
    have l3 : L3.length ≤ 1000 := by rw [e4.len]; exact cnt_le _ _ (by have := HL.out; omega)
    have B4 := Lib.hid (below_more B3.out b4)
    have O4 := Lib.hid o4.ra
    have O3' := Lib.hid (ru_below O3.out b4)
    have O1' := Lib.hid (ra_below O1.out (below_more B13.out b4))
    have C7' := Lib.hid (fun (w' : World) (hb : Below w4.heap.size w4 w') => apply_is A2 L3 _ u4 w' (ru_below O3'.out hb) (ra_below O4.out hb) (by rw [Ha2.out]; have := HL.out; omega) (by omega))
    rw [hZ1] at C7'
    clear o4 e4 b4 hZ1 l3 C4 O3 O1
    go_wp2_with fail
    refine (C5.out w4 B4.out u1 O1'.out).mono ?_; rintro e w5 ⟨⟨u5, rfl, o5⟩, b5⟩
    obtain ⟨p5, k5, rfl⟩ := o5.shape
    have B5 := Lib.hid (below_more B4.out b5)
    have O5 := Lib.hid o5.ru
    have B45 := Lib.hid b5
    rw [HaZ.out] at O5 ⊢
    clear o5 b5 C5
    go_wp2_with fail
    refine (C6.out w5 B5.out _ O5.out).mono ?_; rintro e w6 ⟨⟨u6, L4, rfl, o6, e6⟩, b6⟩
    have hZ2 : appF Z L4 = Z := by
      rw [← HV.out.2.1]
      refine again (wl := wl) (bl := bl) (O := O) HW.out (by rw [HLw.out, HBn.out]; exact HL.out.2.2.2) (by rw [HBn.out]; exact E1.out) ?_
      rw [HV.out.2.1, HBn.out]
      exact e6
    have l4 : L4.length ≤ 1000 := by rw [e6.len]; exact cnt_le _ _ (by have := HL.out; omega)
    have B6 := Lib.hid (below_more B5.out b6)
    have O6 := Lib.hid o6.ra
    have O5' := Lib.hid (ru_below O5.out b6)
    have C8' := Lib.hid (fun (w' : World) (hb : Below w6.heap.size w6 w') => apply_is Z L4 _ u6 w' (ru_below O5'.out hb) (ra_below O6.out hb) (by rw [HaZ.out]; have := HL.out; omega) (by omega))
    rw [hZ2] at C8'
    have B46 := Lib.hid (below_more B45.out b6)
    clear o6 e6 b6 hZ2 l4 C6 O5
    go_wp2_with fail
    refine (C7'.out w6 B46.out).mono ?_; rintro e w7 ⟨⟨u7, rfl, o7⟩, b7⟩
    obtain ⟨p7, k7, rfl⟩ := o7.shape
    have B7 := Lib.hid (below_more B6.out b7)
    have B67 := Lib.hid b7
    have C9 := Lib.hid (words_same o7.ru (ru_below O5'.out b7))
    rw [HaZ.out] at C9 ⊢
    clear o7 b7 C7'
    go_wp2_with fail
    refine (C9.out).mono ?_; rintro e w8 ⟨rfl, n8, e8⟩
    have B8 : Hid (Below w.heap.size w w8) := Lib.hid (by subst e8; exact below_drewN B7.out n8)
    have B68 : Hid (Below w6.heap.size w6 w8) := Lib.hid (by subst e8; exact below_drewN B67.out n8)
    clear e8 C9
    go_wp2_with fail
    refine (C8'.out w8 B68.out).mono ?_; rintro e w9 ⟨⟨u9, rfl, o9⟩, b9⟩
    obtain ⟨p9, k9, rfl⟩ := o9.shape
    have B9 := Lib.hid (below_more B8.out b9)
    have C10 := Lib.hid (words_same o9.ru (ru_below O5'.out (below_more B68.out b9)))
    rw [HaZ.out] at C10 ⊢
    clear o9 b9 C8'
    go_wp2_with fail
    refine (C10.out).mono ?_; rintro e w10 ⟨rfl, n10, e10⟩
    have B10 : Hid (Below w.heap.size w w10) := Lib.hid (by subst e10; exact below_drewN B9.out n10)
    clear e10 C10
    go_wp2_with fail
    refine (awake_any _).mono ?_; rintro e w11 ⟨rfl, b11⟩
    have B11 := Lib.hid (below_more B10.out b11)
    clear b11
    go_wp2_with fail
    go_ret
    exact ⟨rfl, B11.out⟩
theorem walk (l0 : List Int) (v0 : Value) (a1 : Int) (l2 : List Int) (v2 : Value) (a3 : Int) (w : World) (h0 : IntsIn .u64 w v0 l0) (_ : (Lit.int .i64 a1).wf = true) (h2 : RA byE w v2 l2) (_ : (Lit.int .i64 a3).wf = true) :
    Calls Try.prog 6 #[v0, .int .i64 a1, v2, .int .i64 a3] w fun e w' => e = .returned (.bool true) ∧ Below w.heap.size w w' := by
  obtain ⟨p, c, rfl, _, _, _⟩ := id (ru_in h0)
  obtain ⟨q, d, rfl, hdl, hdm⟩ := ra_shape h2
  by_cases h : 200 < l0.length ∨ l0.length = 0 ∨ 448 < l2.length
  · exact far l0.length l2.length c d p q a1 a3 w h
  · have h' := not_or.1 h
    have h'' := not_or.1 h'.2
    obtain ⟨u, N, O, t1, t2, t3, t4, t5, t6, hO, hN⟩ := place8 a1 l0.length (by omega) (by omega)
    by_cases hf : N < O + l2.length
    · exact beyond l0.length l2.length c d p q a1 a3 w (by omega) (by omega) (by omega) u N O t1 t2 t3 t4 t5 t6 hO hN hf
    · obtain ⟨u2, M, k, s1, s2, s3, s4, s5, s6, hk⟩ := part1 a3 l2.length (by omega)
      exact near l0 l2 c d p q a1 a3 w (ru_in h0) (fun x hx => by have := u64_in (in_wf_u h0 x hx); exact ⟨this.1, by omega⟩) h2 (by omega) (by omega) (by omega) u N O t1 t2 t3 t4 t5 t6 hO hN hf u2 M k s1 s2 s3 s4 s5 s6 hk hdl hdm

set_option maxRecDepth 100000 in
theorem lifted (os : Os) (started : os.Started) (H : Type) (enc : TypeId × Value → H) :
    ReturnsInHanded {} Try.checked os 6 .any (Rows.spanTwiceSpec.pre6 enc Try.prog Try.f6 Rows.spanTwiceRow.domain false) (Rows.spanTwiceSpec.post enc Try.prog Try.f6 false true false false) := by
  refine returnsInHanded_of_change (C := Try.checked) own started (by kernel_rfl) Try.func6
    (ChangeSpec.witness6 (enc := enc) (C := Try.checked) false ⟨#[], #[.slice none 0 0, .int .i64 0, .slice none 0 0, .int .i64 0], []⟩ 8 (by kernel_rfl) (by kernel_rfl) (by kernel_rfl) (by kernel_rfl)) ?_
  intro W base args ds gs before hval0 hW hcnd _
  have hval : ∀ (j : Nat) t v, Try.f6.params[j]? = some t → args[j]? = some v → Value.okWide Try.prog W .any base t v := hval0
  have hW' := hW
  have hlt := hW.lt
  obtain ⟨p, q, hA0, hV, hpq, hfz, hnd⟩ := hW
  have hA : DataW.TrodAll enc Try.prog W 0 (fun _ => true) true Try.f6.params.toList args.toList ds p := hA0
  rw [Try.params6] at hA hval
  obtain ⟨v0, vs0, d0, ds0, p0, q0, hargs, rfl, hp, h0, r0⟩ := trodAll_cons hA
  obtain ⟨v1, vs1, d1, ds1, p1, q1, rfl, rfl, rfl, h1, r1⟩ := trodAll_cons r0
  obtain ⟨v2, vs2, d2, ds2, p2, q2, rfl, rfl, rfl, h2, r2⟩ := trodAll_cons r1
  obtain ⟨v3, vs3, d3, ds3, p3, q3, rfl, rfl, rfl, h3, r3⟩ := trodAll_cons r2
  obtain ⟨rfl, rfl, rfl⟩ := trodAll_nil r3
  obtain rfl : args = #[v0, v1, v2, v3] := by cases args; simp_all
  obtain ⟨rfl, rfl⟩ := trodVars_none hV
  have hlt' : ∀ x ∈ before, x.block < W.heap.size := fun x hx => hlt x hx
  obtain ⟨l0, w0⟩ := ints_in Try.underlying22 Try.underlying41 (by kernel_rfl) (hval 0 22 v0 rfl rfl) (fun x hx => hlt' x (by rw [hpq, hp]; simp [hx])) h0
  obtain ⟨a1, rfl, rfl, rfl, w1⟩ := open_int Try.underlying3 (hval 1 3 v1 rfl rfl) h1
  obtain ⟨l2, w2⟩ := bytes_in (hval 2 23 v2 rfl rfl) h2
  obtain ⟨a3, rfl, rfl, rfl, w3⟩ := open_int Try.underlying3 (hval 3 3 v3 rfl rfl) h3
  refine (walk l0 v0 a1 l2 v2 a3 W w0 w1 w2 w3).mono fun e W' ⟨he, hb⟩ => ?_
  subst he
  exact ⟨_, rfl, law_post rfl (by kernel_rfl) hW' (by rw [Try.params6]; intro t ht; simp only [List.mem_cons, List.not_mem_nil, or_false] at ht; (repeat' (first | (rcases ht with rfl | ht) | subst ht)) <;> exact ⟨by kernel_rfl, of_decide_eq_true (by kernel_rfl)⟩) rfl hb⟩

theorem over : Rows.spanTwiceRow.holds Try.pinned (OpenSpec.ofChange Rows.spanTwiceSpec) :=
  OpenClaim.holds_of_wide 6 Try.f6 rfl rfl rfl rfl rfl rfl rfl ⟨rfl, rfl, rfl, rfl, rfl⟩ rfl rfl rfl rfl rfl (by kernel_rfl) Try.func6 (by kernel_rfl)
    (of_decide_eq_true (by kernel_rfl)) (by unfold Func.isWrapper; first | (rw [if_pos (by decide +kernel)]; kernel_rfl) | (rw [if_neg (by decide +kernel)]; exact ⟨rfl, rfl⟩))
    (fun os started H enc _ => lifted os started H enc)

theorem proved : Rows.SpanTwiceSaid := over
end Go.Proofs.Ytnlhjppjgjobkaa.spanTwice
