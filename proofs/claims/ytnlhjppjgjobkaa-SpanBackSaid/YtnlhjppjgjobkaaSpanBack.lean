/-
  What is written is what is read; all other bytes are as they were; each word that has one of the bytes is edited once. No conditions.
-/
import Derived.Test.YtnlhjppjgjobkaaSpv
import Derived.Test.YtnlhjppjgjobkaaSpx
namespace Go.Proofs.Ytnlhjppjgjobkaa.spanBack
set_option maxRecDepth 100000
open Go.Proofs.Ytnlhjppjgjobkaa Go.ChangeShapes Go.WideShapes Go.ChangeAt Go.RowKit

/-- the numbers of a place among 8 L bytes -/
theorem place8 (a : Int) (L : Nat) (h0 : 0 < L) (h1 : L ≤ 300) : ∃ u N O : Nat, IntKind.i64.wrap (8 * (L : Int)) = (N : Int) ∧ IntKind.u64.wrap a = (u : Int) ∧ IntKind.u64.wrap (N : Int) = (N : Int) ∧ ¬ N = 0 ∧ (u : Int).tmod (N : Int) = (O : Int) ∧ IntKind.i64.wrap (O : Int) = (O : Int) ∧ O < N ∧ N = 8 * L := by
  obtain ⟨u, hu, _⟩ := u64_nat a
  have hlt : u % (8 * L) < 8 * L := Nat.mod_lt _ (by omega)
  refine ⟨u, 8 * L, u % (8 * L), by rw [show 8 * (L : Int) = ((8 * L : Nat) : Int) by omega]; exact i64_nat _ (by omega), hu, by rw [IntKind.wrap_u64]; omega, by omega, tmod_nat u (8 * L), i64_nat _ (by omega), hlt, rfl⟩
set_option maxHeartbeats 1000000 in
theorem far (L B c d : Nat) (p q : Option Addr) (o t : Int) (w : World) (h : 300 < L ∨ L = 0 ∨ 448 < B) :
    Calls Try.prog 4 #[.slice p L c, .int .i64 o, .slice q B d, .int .i64 t] w fun e w' => e = .returned (.bool true) ∧ Below w.heap.size w w' := by
  by_cases h1 : 300 < L
  · have i1 : (L : Int) > 300 := by omega
    clear h
    go_enter Try.func4, Try.ntmps4
    go_wp2_with fail
    refine (awake_any _).mono ?_; rintro e w' ⟨rfl, hb⟩
    go_wp2_with fail
    go_ret
    exact ⟨rfl, hb⟩
  · have i1 : ¬ (L : Int) > 300 := by omega
    by_cases h2 : L = 0
    · subst h2
      clear h h1
      go_enter Try.func4, Try.ntmps4
      go_wp2_with fail
      refine (awake_any _).mono ?_; rintro e w' ⟨rfl, hb⟩
      go_wp2_with fail
      go_ret
      exact ⟨rfl, hb⟩
    · have i2 : ((L : Int) == 0) = false := beq_eq_false_iff_ne.2 (by omega)
      have i3 : (B : Int) > 448 := by omega
      clear h h1
      go_enter Try.func4, Try.ntmps4
      go_wp2_with fail
      refine (awake_any _).mono ?_; rintro e w' ⟨rfl, hb⟩
      go_wp2_with fail
      go_ret
      exact ⟨rfl, hb⟩
set_option maxHeartbeats 4000000 in
theorem near (wl bl : List Int) (v u : Value) (o t : Int) (w : World) (hv : RU w v wl) (hw : ∀ x ∈ wl, Wd x) (hb : RA byE w u bl) (hl : wl.length ≤ 300) (hl0 : 0 < wl.length) (hbl : bl.length ≤ 448) :
    Calls Try.prog 4 #[v, .int .i64 o, u, .int .i64 t] w fun e w' => e = .returned (.bool true) ∧ Below w.heap.size w w' := by
  obtain ⟨p, c, rfl, _, _, _⟩ := id hv
  obtain ⟨q, d, rfl, _, _⟩ := ra_shape hb
  obtain ⟨u1, N, O, t1, t2, t3, t4, t5, t6, hON, hN⟩ := place8 o wl.length hl0 hl
  have i1 : ¬ (wl.length : Int) > 300 := by omega
  have i2 : ((wl.length : Int) == 0) = false := beq_eq_false_iff_ne.2 (by omega)
  have i3 : ¬ (bl.length : Int) > 448 := by omega
  have i4 : ¬ wl.length > 300 := by omega
  have i5 : ¬ wl.length = 0 := by omega
  have i6 : ¬ bl.length > 448 := by omega
  obtain ⟨S, hS⟩ : ∃ S, O + bl.length = S := ⟨_, rfl⟩
  have t7 : IntKind.i64.wrap ((O : Int) + (bl.length : Int)) = (S : Int) := by rw [show (O : Int) + (bl.length : Int) = (S : Int) by omega]; exact i64_nat _ (by omega)
  by_cases hfit : N < S
  · have C1 := Lib.hid (edits_no (O : Int) bl.length wl.length c d p q (by omega) (fun k => by have := k.2.2.2; omega) (by omega) (by omega) w)
    have i7 : (S : Int) > (N : Int) := by omega
    have i8 : S > N := hfit
    clear hv hw hb hl hl0 hbl hON hN hS hfit
    generalize wl.length = L at *
    generalize bl.length = B at *
    go_enter Try.func4, Try.ntmps4
    go_wp2_with fail
    refine (C1.out).mono ?_; rintro e w' ⟨rfl, rfl⟩
    go_wp2_with fail
    refine (awake_any _).mono ?_; rintro e w' ⟨rfl, hb⟩
    go_wp2_with fail
    go_ret
    exact ⟨rfl, hb⟩
  · obtain ⟨u2, N2, T, _, s2, _, _, s5, s6, hTN, hN2⟩ := place8 t wl.length hl0 hl
    obtain rfl : N = N2 := by omega
    have C1 := Lib.hid (edits_yes wl bl _ _ O w hv hb hw (by omega) hbl (by omega))
    have CP := Lib.hid (fun w' => pieces_yes O bl.length (by omega) hbl w')
    have C2 := Lib.hid (fun (w' : World) (hb' : Below w.heap.size w w') (es : List Ed) (y : Value) (he : RA edE w' y es) (hel : es.length ≤ 4000) => apply_is wl es _ y w' (ru_below hv hb') he (by omega) hel)
    have C5 := Lib.hid (fun (w' : World) (hb' : Below w.heap.size w w') => read_yes wl _ T 1 w' (ru_below hv hb') hw (by omega) (by decide) (by omega))
    have i7 : ¬ (S : Int) > (N : Int) := by omega
    have i8 : ¬ S > N := hfit
    have HU := Lib.hid (fun (w' : World) (hb' : Below w.heap.size w w') => run_strConv (ra_below hb hb'))
    have HW := Lib.hid hw
    have HY := Lib.hid (show ∀ x ∈ bl, By x from ra_ok hb)
    have HL := Lib.hid (And.intro hl (And.intro hl0 (And.intro hbl (And.intro (show T < 8 * wl.length by omega) (show O + bl.length ≤ 8 * wl.length by omega)))))
    have hcn : (pcs O bl.length).length = cnt O bl.length := pcs_length _ _
    have hpl : ∀ L1, IsE wl O bl.length (fun k => bl.getD k 0) L1 → L1.length = (pcs O bl.length).length := fun L1 h => h.len.trans hcn.symm
    have HPL := Lib.hid hpl
    have HSr : Hid (T < O ∨ ¬ T < S → ∀ k, k = T → tgt wl O bl.length (fun k => bl.getD k 0) k = bAt_ wl T) := Lib.hid fun h k hk => by
      subst hk
      unfold tgt
      rw [if_neg (by omega)]
    have HOS : Hid (S = O + bl.length) := Lib.hid hS.symm
    clear hv hw hb hl hl0 hbl hON hN hS hfit hTN hN2 hcn hpl
    obtain ⟨Lw, hLw⟩ : ∃ L, wl.length = L := ⟨_, rfl⟩
    obtain ⟨B, hB⟩ : ∃ L, bl.length = L := ⟨_, rfl⟩
    rw [hLw] at C1 C2 C5 HL i1 i2 i4 i5 t1 ⊢
    rw [hB] at C1 HU HL CP HPL HSr HOS i3 i6 t7 ⊢
    have HLw := Lib.hid hLw
    have HB := Lib.hid hB
    clear hLw hB
    go_enter Try.func4, Try.ntmps4
    go_wp2_with fail
    refine (C1.out).mono ?_; rintro e w1 ⟨⟨u1, L1, rfl, o1, e1⟩, b1⟩
    have hA1 := appF_isE e1 HW.out (by rw [HLw.out]; exact HL.out.2.2.2.2)
    have hlen := HPL.out L1 e1
    have hle := e1.len
    have hl1 : L1.length ≤ 1000 := by rw [hle]; have := HL.out; unfold cnt; split <;> omega
    obtain ⟨g1, k1, rfl, _, _⟩ := o1.shape
    have O1 := Lib.hid o1.ra
    have E1 := Lib.hid e1
    have HA1 := Lib.hid hA1
    have B1 := Lib.hid b1
    have HLl := Lib.hid hl1
    have hal := appF_length L1 wl
    obtain ⟨A, hA⟩ : ∃ A, appF wl L1 = A := ⟨_, rfl⟩
    have C2' := Lib.hid (C2.out w1 b1 L1 _ o1.ra (by omega))
    rw [hA] at C2' HA1 hal
    rw [HLw.out] at hal
    obtain ⟨K, hK⟩ : ∃ K, L1.length = K := ⟨_, rfl⟩
    rw [hK] at hlen HLl O1 C2' ⊢
    have HK1 := Lib.hid hK
    have Hal := Lib.hid hal
    have HPn := Lib.hid hlen.symm
    clear o1 e1 b1 C1 C2 hA1 hlen hle hl1 hA hal hK
    go_wp2_with fail
    refine (C2'.out).mono ?_; rintro e w2 ⟨⟨u2, rfl, o2⟩, b2⟩
    obtain ⟨p2, k2, rfl⟩ := o2.shape
    have O2 := Lib.hid o2.ru
    have B2 := Lib.hid (below_more B1.out b2)
    have O1' := Lib.hid (ra_below O1.out b2)
    rw [Hal.out] at O2 ⊢
    have C3 := Lib.hid (read_yes A _ O B w2 O2.out HA1.out.1 (by rw [Hal.out]; have := HL.out; omega) HL.out.2.2.1 (by rw [Hal.out]; exact HL.out.2.2.2.2))
    have hrd : rdB A O B = bl := by
      have := rdB_is (w := A) (l := bl) (o := O) fun k hk => by
        rw [HA1.out.2 _ (by rw [HLw.out]; rw [HB.out] at hk; have := HL.out; omega)]
        unfold tgt
        rw [if_pos (by rw [HB.out] at hk; omega), Nat.add_sub_cancel_left]
      rwa [HB.out] at this
    rw [hrd] at C3
    clear o2 b2 hrd O1 C2'
    go_wp2_with fail
    refine (C3.out).mono ?_; rintro e w3 ⟨⟨u3, rfl, o3⟩, b3⟩
    have B3 := Lib.hid (below_more B2.out b3)
    have O3 := Lib.hid o3.ra
    have O2' := Lib.hid (ru_below O2.out b3)
    have O1'' := Lib.hid (ra_below O1'.out b3)
    have C4 := Lib.hid (read_yes A _ T 1 w3 O2'.out HA1.out.1 (by rw [Hal.out]; have := HL.out; omega) (by decide) (by rw [Hal.out]; have := HL.out; omega))
    clear o3 b3 C3 O2 O1'
    go_wp2_with fail
    refine (C4.out).mono ?_; rintro e w4 ⟨⟨u4, rfl, o4⟩, b4⟩
    have B4 := Lib.hid (below_more B3.out b4)
    have O4 := Lib.hid o4.ra
    have O3' := Lib.hid (ra_below O3.out b4)
    have O1' := Lib.hid (ra_below O1''.out b4)
    clear o4 b4 C4 O2' O3 O1''
    go_wp2_with fail
    refine (C5.out w4 B4.out).mono ?_; rintro e w5 ⟨⟨u5, rfl, o5⟩, b5⟩
    have B5 := Lib.hid (below_more B4.out b5)
    have O5 := Lib.hid o5.ra
    have O4' := Lib.hid (ra_below O4.out b5)
    have O1 := Lib.hid (ra_below O1'.out b5)
    have s31 := run_strConv (ra_below O3'.out b5)
    have s32 := HU.out w5 B5.out
    clear o5 b5 C5 O4 O3' O1' HU
    generalize strOfNums bl = SB at *
    go_wp2_with fail
    refine (CP.out w5).mono ?_; rintro e w6 ⟨⟨u6, rfl, o6⟩, b6⟩
    obtain ⟨p6, k6, rfl, _, _⟩ := o6.shape
    have B6 := Lib.hid (below_more B5.out b6)
    have O1' := Lib.hid (ra_below O1.out b6)
    have O4 := Lib.hid (ra_below O4'.out b6)
    have O5' := Lib.hid (ra_below O5.out b6)
    rw [HPn.out]
    clear o6 b6 CP O1 O4' O5
    have HS : Hid (∀ wr, (∃ n, wr = w6.drewN n) → ∀ j, j < K → ∃ b off, g1 = some ⟨b, off, none⟩ ∧ ∀ m, (wr.drewN m).cell? ⟨b, off + j * 2, none⟩ = some (.int .i64 ((O / 8 + j : Nat) : Int))) := Lib.hid fun wr hwr j hj => by
      obtain ⟨n, rfl⟩ := hwr
      obtain ⟨b, off, e, _, hx⟩ := ed_at O1'.out (by rw [HK1.out]; omega)
      refine ⟨b, off, e, fun m => ?_⟩
      have := (hx j (by rw [HK1.out]; exact hj)).2.1
      rw [(E1.out.at_ j (by rw [HK1.out]; exact hj)).1] at this
      exact this
    clear O1' E1
    go_wp2
    go_loopw [18] (fun i wr => ∃ j : Nat, 1 ≤ j ∧ (j ≤ K ∨ j = 1) ∧ i = .int .i64 j ∧ Hid (∃ n, wr = w6.drewN n)) (fun i _ => K - (intOf i).toNat)
    case atStart => exact ⟨1, Nat.le_refl _, .inr rfl, rfl, Lib.hid ⟨0, rfl⟩⟩
    case round =>
      obtain ⟨j, hj1, hj2, rfl, HD⟩ := hrel
      by_cases hlt : j < K
      · obtain ⟨J, hJ⟩ : ∃ J, j = J + 1 := ⟨j - 1, by omega⟩
        obtain ⟨b, off, e1, x1⟩ := HS.out _ HD.out j hlt
        subst e1
        obtain ⟨_, _, e1, x2⟩ := HS.out _ HD.out J (by omega)
        cases e1
        obtain ⟨ya, hya⟩ : ∃ y, O / 8 + j = y := ⟨_, rfl⟩
        obtain ⟨yb, hyb⟩ : ∃ y, O / 8 + J = y := ⟨_, rfl⟩
        rw [hya] at x1
        rw [hyb] at x2
        have hL := HL.out
        have hKl := HLl.out
        have j0 : (0 : Int) ≤ (j : Int) := by omega
        have j1 : (j : Int) < (K : Int) := by omega
        have j2 : ¬ (j : Int) < 0 := by omega
        have j3 : IntKind.i64.wrap ((j : Int) + 1) = ((j + 1 : Nat) : Int) := by rw [show (j : Int) + 1 = ((j + 1 : Nat) : Int) by omega]; exact i64_nat _ (by omega)
        have j4 : IntKind.i64.wrap ((j : Int) - 1) = (J : Int) := by rw [show (j : Int) - 1 = (J : Int) by omega]; exact i64_nat _ (by omega)
        have j5 : (0 : Int) ≤ (J : Int) := by omega
        have j6 : (J : Int) < (K : Int) := by omega
        have j7 : ¬ (J : Int) < 0 := by omega
        have j8 : IntKind.i64.wrap ((yb : Int) + 1) = (ya : Int) := by rw [show (yb : Int) + 1 = (ya : Int) by omega]; exact i64_nat _ (by omega)
        have HK2 := Lib.hid (And.intro hlt hj1)
        have HD2 : Hid (∀ m, ∃ n', wr.drewN m = w6.drewN n') := Lib.hid fun m => by
          obtain ⟨n, e⟩ := HD.out
          subst e
          exact ⟨_, World.drewN_drewN ..⟩
        clear hya hyb hlt hj1 hj2 hJ HD hL hKl
        go_wp2_with fail
        go_quiet (fail)
        go_wp2
        exact ⟨⟨j + 1, by omega, .inl (by have := HK2.out; omega), by go_num, Lib.hid (HD2.out _)⟩, by have := HK2.out; simp [intOf]; omega⟩
      · have j1 : ¬ (j : Int) < (K : Int) := by omega
        obtain ⟨n, hn⟩ := HD.out
        have D4 : Hid (Below w.heap.size w wr) := Lib.hid (by subst hn; exact below_drewN B6.out n)
        have hbw : Below w6.heap.size w6 wr := by subst hn; exact below_drewN (Below.refl _ _) n
        have s4 := run_strConv (ra_below O4.out hbw)
        have s5' := run_strConv (ra_below O5'.out hbw)
        have hx1 : rdB A T 1 = [bAt_ A T] := rfl
        have hx2 : rdB wl T 1 = [bAt_ wl T] := rfl
        rw [hx1] at s4
        rw [hx2] at s5'
        have htg := HA1.out.2 T (by rw [HLw.out]; have := HL.out; omega)
        have hSr := HSr.out
        clear hn HD hlt hj1 hj2 hbw HS hx1 hx2 s31 s32
        by_cases r1 : T < O
        · have q1 : ¬ (T : Int) ≥ (O : Int) := by omega
          rw [htg, hSr (.inl r1) T rfl] at s4
          generalize strOfNums [bAt_ wl T] = SX at *
          clear hSr htg
          go_wp2_with fail
          refine (awake_any _).mono ?_; rintro e w7 ⟨rfl, b7⟩
          have D7 := Lib.hid (below_more D4.out b7)
          clear b7
          go_wp2_with fail
          go_ret
          exact ⟨rfl, D7.out⟩
        · have q1 : (T : Int) ≥ (O : Int) := by omega
          by_cases r2 : T < S
          · have q2 : (T : Int) < (S : Int) := by omega
            clear hSr htg
            generalize strOfNums [bAt_ wl T] = SX at *
            generalize strOfNums [bAt_ A T] = SY at *
            go_wp2_with fail
            refine (awake_any _).mono ?_; rintro e w7 ⟨rfl, b7⟩
            have D7 := Lib.hid (below_more D4.out b7)
            clear b7
            go_wp2_with fail
            go_ret
            exact ⟨rfl, D7.out⟩
          · have q2 : ¬ (T : Int) < (S : Int) := by omega
            rw [htg, hSr (.inr r2) T rfl] at s4
            generalize strOfNums [bAt_ wl T] = SX at *
            clear hSr htg
            go_wp2_with fail
            refine (awake_any _).mono ?_; rintro e w7 ⟨rfl, b7⟩
            have D7 := Lib.hid (below_more D4.out b7)
            clear b7
            go_wp2_with fail
            go_ret
            exact ⟨rfl, D7.out⟩
theorem walk (l0 : List Int) (v0 : Value) (a1 : Int) (l2 : List Int) (v2 : Value) (a3 : Int) (w : World) (h0 : IntsIn .u64 w v0 l0) (_ : (Lit.int .i64 a1).wf = true) (h2 : RA byE w v2 l2) (_ : (Lit.int .i64 a3).wf = true) :
    Calls Try.prog 4 #[v0, .int .i64 a1, v2, .int .i64 a3] w fun e w' => e = .returned (.bool true) ∧ Below w.heap.size w w' := by
  by_cases h : 300 < l0.length ∨ l0.length = 0 ∨ 448 < l2.length
  · obtain ⟨p, c, rfl, _, _, _⟩ := ru_in h0
    obtain ⟨q, d, rfl, _, _⟩ := ra_shape h2
    exact far l0.length l2.length c d p q a1 a3 w h
  · have h' := not_or.1 h
    have h'' := not_or.1 h'.2
    exact near l0 l2 v0 v2 a1 a3 w (ru_in h0) (fun x hx => by have := u64_in (in_wf_u h0 x hx); exact ⟨this.1, by omega⟩) h2 (by omega) (by omega) (by omega)

set_option maxRecDepth 100000 in
theorem lifted (os : Os) (started : os.Started) (H : Type) (enc : TypeId × Value → H) :
    ReturnsInHanded {} Try.checked os 4 .any (Rows.spanBackSpec.pre6 enc Try.prog Try.f4 Rows.spanBackRow.domain false) (Rows.spanBackSpec.post enc Try.prog Try.f4 false true false false) := by
  refine returnsInHanded_of_change (C := Try.checked) own started (by kernel_rfl) Try.func4
    (ChangeSpec.witness6 (enc := enc) (C := Try.checked) false ⟨#[], #[.slice none 0 0, .int .i64 0, .slice none 0 0, .int .i64 0], []⟩ 8 (by kernel_rfl) (by kernel_rfl) (by kernel_rfl) (by kernel_rfl)) ?_
  intro W base args ds gs before hval0 hW hcnd _
  have hval : ∀ (j : Nat) t v, Try.f4.params[j]? = some t → args[j]? = some v → Value.okWide Try.prog W .any base t v := hval0
  have hW' := hW
  have hlt := hW.lt
  obtain ⟨p, q, hA0, hV, hpq, hfz, hnd⟩ := hW
  have hA : DataW.TrodAll enc Try.prog W 0 (fun _ => true) true Try.f4.params.toList args.toList ds p := hA0
  rw [Try.params4] at hA hval
  obtain ⟨v0, vs0, d0, ds0, p0, q0, hargs, rfl, hp, h0, r0⟩ := trodAll_cons hA
  obtain ⟨v1, vs1, d1, ds1, p1, q1, rfl, rfl, rfl, h1, r1⟩ := trodAll_cons r0
  obtain ⟨v2, vs2, d2, ds2, p2, q2, rfl, rfl, rfl, h2, r2⟩ := trodAll_cons r1
  obtain ⟨v3, vs3, d3, ds3, p3, q3, rfl, rfl, rfl, h3, r3⟩ := trodAll_cons r2
  obtain ⟨rfl, rfl, rfl⟩ := trodAll_nil r3
  obtain rfl : args = #[v0, v1, v2, v3] := by cases args; simp_all
  obtain ⟨rfl, rfl⟩ := trodVars_none hV
  have hlt' : ∀ x ∈ before, x.block < W.heap.size := fun x hx => hlt x hx
  obtain ⟨l0, w0⟩ := ints_in Try.underlying22 Try.underlying41 (by kernel_rfl) (hval 0 22 v0 rfl rfl) (fun x hx => hlt' x (by rw [hpq, hp]; simp [hx])) h0
  obtain ⟨a1, rfl, rfl, rfl, w1⟩ := open_int Try.underlying3 (hval 1 3 v1 rfl rfl) h1
  obtain ⟨l2, w2⟩ := bytes_in (hval 2 23 v2 rfl rfl) h2
  obtain ⟨a3, rfl, rfl, rfl, w3⟩ := open_int Try.underlying3 (hval 3 3 v3 rfl rfl) h3
  refine (walk l0 v0 a1 l2 v2 a3 W w0 w1 w2 w3).mono fun e W' ⟨he, hb⟩ => ?_
  subst he
  exact ⟨_, rfl, law_post rfl (by kernel_rfl) hW' (by rw [Try.params4]; intro t ht; simp only [List.mem_cons, List.not_mem_nil, or_false] at ht; (repeat' (first | (rcases ht with rfl | ht) | subst ht)) <;> exact ⟨by kernel_rfl, of_decide_eq_true (by kernel_rfl)⟩) rfl hb⟩

theorem over : Rows.spanBackRow.holds Try.pinned (OpenSpec.ofChange Rows.spanBackSpec) :=
  OpenClaim.holds_of_wide 4 Try.f4 rfl rfl rfl rfl rfl rfl rfl ⟨rfl, rfl, rfl, rfl, rfl⟩ rfl rfl rfl rfl rfl (by kernel_rfl) Try.func4 (by kernel_rfl)
    (of_decide_eq_true (by kernel_rfl)) (by unfold Func.isWrapper; first | (rw [if_pos (by decide +kernel)]; kernel_rfl) | (rw [if_neg (by decide +kernel)]; exact ⟨rfl, rfl⟩))
    (fun os started H enc _ => lifted os started H enc)

theorem proved : Rows.SpanBackSaid := over
end Go.Proofs.Ytnlhjppjgjobkaa.spanBack
