/-
  Two heaps, of other plans for the gap, that are done the same tell the same. No conditions.
-/
import Derived.Test.YtjkefcidbcifpaaGreatZmf
namespace Go.Proofs.YtjkefcidbcifpaaGreat.heapTwo
set_option maxRecDepth 100000
open Go.Proofs.YtjkefcidbcifpaaGreat Go.ChangeShapes Go.WideShapes Go.ChangeAt Go.RowKit

set_option maxRecDepth 100000 in
set_option maxHeartbeats 8000000 in
theorem walk (c0 e0 g0 k0 : Int) (l1 : List Px) (v1 : Value) (a2 : Int) (w : World) (_ : (Lit.int .i64 c0).wf = true ∧ (Lit.int .i64 e0).wf = true ∧ (Lit.int .i64 g0).wf = true ∧ (Lit.int .i64 k0).wf = true) (w1 : RA (opE w) w v1 l1) (_ : (Lit.int .i64 a2).wf = true) :
    Calls Tryz.prog 9 #[(Value.agg #[Value.int IntKind.i64 c0, Value.int IntKind.i64 e0, Value.int IntKind.i64 g0, Value.int IntKind.i64 k0]), v1, .int .i64 a2] w fun e w' => e = .returned (.bool true) ∧ Below w.heap.size w w' := by
  obtain ⟨W, hW, H0⟩ := plan_boxed w c0 e0 g0 k0
  have PQ := Lib.hid H0.out.1
  have HB := Lib.hid H0.out.2
  obtain ⟨p1, q1, rfl, _⟩ := ra_shape w1
  have W1 := Lib.hid w1
  have HV1 := Lib.hid (heavy21b l1 [] _ (.slice none 0 0) (ra_below w1 HB.out) (ri_nil W))
  have PW := Lib.hid (plan_raw c0 e0 g0 k0)
  clear w1 H0
  go_enter Tryz.func9, Tryz.ntmps9
  go_wp2_with fail
  refine (HV1.out).mono ?_; rintro e w4 ⟨⟨R, rfl, hr1, hl1⟩, b4⟩
  have B4 := Lib.hid b4
  clear b4
  by_cases h0 : R = 0
  rotate_left
  · have i1 : (R : Int) > 0 := by omega
    have i2 : 0 < R := by omega
    clear h0 hr1 hl1
    go_wp2_with fail
    refine (awake_any _).mono ?_; rintro e w5 ⟨rfl, b5⟩
    have D5 := Lib.hid (below_more HB.out (below_more B4.out b5))
    go_wp2_with fail
    go_ret
    exact ⟨rfl, D5.out⟩
  have L1 := Lib.hid (hl1 (by omega))
  have i1 : ¬ (R : Int) > 0 := by omega
  have i2 : ¬ 0 < R := by omega
  have PQ4 := Lib.hid (PQ.out.below B4.out)
  have a0 := PQ4.out.c0
  have a1 := PQ4.out.c1
  have a2 : w4.cell? ⟨w.heap.size, 2, none⟩ = some (.int .i64 g0) := Whole.at_ PQ4.out 2
  have a3 : w4.cell? ⟨w.heap.size, 3, none⟩ = some (.int .i64 k0) := Whole.at_ PQ4.out 3
  clear h0 hr1 hl1 HV1
  go_wp2_with fail
  refine (PW.out _).mono ?_; rintro e w5 ⟨⟨N, P, per, b, rfl, hN⟩, b5⟩
  have HN := Lib.hid hN
  have PQ5 := Lib.hid (PQ4.out.below b5)
  have B5 := Lib.hid (below_more HB.out (below_more B4.out b5))
  clear b5 hN a0 a1 a2 a3
  have hst := PQ5.out.pstore (l' := (N : Int)) (s' := (P : Int)) (p' := (per : Int)) (b' := (b : Int))
  have HV := Lib.hid (And.intro (PQ5.out.pput (l' := (N : Int)) (s' := (P : Int)) (p' := (per : Int)) (b' := (b : Int))) (show Below w.heap.size w (w5.setRow w.heap.size #[Value.int IntKind.i64 (N : Int), Value.int IntKind.i64 (P : Int), Value.int IntKind.i64 (per : Int), Value.int IntKind.i64 (b : Int)]) from below_row B5.out (Nat.le_refl _)))
  obtain ⟨V, hV⟩ : ∃ V, w5.setRow w.heap.size #[Value.int IntKind.i64 (N : Int), Value.int IntKind.i64 (P : Int), Value.int IntKind.i64 (per : Int), Value.int IntKind.i64 (b : Int)] = V := ⟨_, rfl⟩
  rw [hV] at hst HV
  have lV := HV.out.1.load
  have VS := Lib.hid (Whole.lt HV.out.1)
  obtain ⟨V1, hV1⟩ : ∃ V1, V.alloc (.cells #[.int .i64 0, .int .i64 0, .int .i64 0, .int .i64 0] 23) = V1 := ⟨_, rfl⟩
  have P0 : Pq V1 V.heap.size 0 0 0 0 := by rw [← hV1]; exact heap_alloc_new V _
  have hst2 := P0.pstore (l' := (N : Int)) (s' := (P : Int)) (p' := (per : Int)) (b' := (b : Int))
  obtain ⟨V2, hV2⟩ : ∃ V2, V1.setRow V.heap.size #[Value.int IntKind.i64 (N : Int), Value.int IntKind.i64 (P : Int), Value.int IntKind.i64 (per : Int), Value.int IntKind.i64 (b : Int)] = V2 := ⟨_, rfl⟩
  have P2 : Pq V2 V.heap.size (N : Int) (P : Int) (per : Int) (b : Int) := by rw [← hV2]; exact P0.pput
  have BV2 : Below V.heap.size V V2 := by rw [← hV2, ← hV1]; exact below_row (bal (Below.refl _ _)) (Nat.le_refl _)
  rw [hV2] at hst2
  obtain ⟨u0, hu0, _⟩ := u64_nat a2
  have m0 : u0 % 1000 < 1000 := Nat.mod_lt _ (by decide)
  have t0 : (u0 : Int).tmod 1000 = ((u0 % 1000 : Nat) : Int) := tmod_nat u0 1000
  generalize u0 % 1000 = n0 at *
  have kk0 : IntKind.i64.wrap (n0 : Int) = n0 := i64_nat _ (by omega)
  obtain ⟨per', hper'⟩ : ∃ x, 1 + n0 = x := ⟨_, rfl⟩
  have j0 : IntKind.i64.wrap (1 + (n0 : Int)) = (per' : Int) := by rw [show 1 + (n0 : Int) = (per' : Int) by omega]; exact i64_nat _ (by omega)
  have HPER : Hid (1 ≤ per' ∧ per' ≤ 1000) := Lib.hid (by omega)
  clear hper' m0
  obtain ⟨V3, hV3⟩ : ∃ V3, V2.setCell ⟨V.heap.size, 2, none⟩ (.int .i64 (per' : Int)) = V3 := ⟨_, rfl⟩
  obtain ⟨V4, hV4⟩ : ∃ V4, V3.setCell ⟨V.heap.size, 1, none⟩ (.int .i64 0) = V4 := ⟨_, rfl⟩
  have P3 : Pq V3 V.heap.size (N : Int) (P : Int) (per' : Int) (b : Int) := by rw [← hV3]; exact Whole.set_ P2 2 _
  have P4 : Pq V4 V.heap.size (N : Int) ((0 : Nat) : Int) (per' : Int) (b : Int) := by rw [← hV4]; exact Whole.set_ P3 1 _
  have BV4 : Below V.heap.size V V4 := by rw [← hV4, ← hV3]; exact (BV2.setCell (p := ⟨V.heap.size, 2, none⟩) (Nat.le_refl _) _).setCell (p := ⟨V.heap.size, 1, none⟩) (Nat.le_refl _) _
  have QB := Lib.hid (And.intro P4 BV4)
  have y2 : V2.cell? ⟨V.heap.size, 2, none⟩ = some (.int .i64 (per : Int)) := Whole.at_ P2 2
  have y3 : V3.cell? ⟨V.heap.size, 1, none⟩ = some (.int .i64 (P : Int)) := Whole.at_ P3 1
  have f2 := Whole.free P2 2
  have f3 := Whole.free P3 1
  have lW := (HV.out.1.below BV4).load
  have MD := Lib.hid (made_is (w := V4) (N := N) (P := P) (per := per) (b := b) (v := .slice none 0 0) (lim := []) (by have := HN.out; unfold MayN; omega) (ri_nil V4))
  clear P0 P2 P3 P4 BV2 BV4
  go_wp2_with fail
  refine (MD.out).mono ?_; rintro e w6 ⟨b6, ⟨a, S, ha, rfl, hnew, hp, hi, hw, hco, hfr, hct⟩ | ⟨hl, _⟩⟩
  rotate_left
  · exact absurd rfl hl
  have B6 := Lib.hid b6
  have BV : Hid (Below w.heap.size w V4) := Lib.hid (below_more HV.out.2 QB.out.2)
  have H6 := Lib.hid (And.intro hp (And.intro hi (And.intro (And.intro (hfr rfl) hw) (And.intro ha.1 (And.intro hct hnew)))))
  have lQ := (QB.out.1.below b6).load
  have MD2 := Lib.hid (made_is (w := w6) (N := N) (P := 0) (per := per') (b := b) (v := .slice none 0 0) (lim := []) (by have := HN.out; have := HPER.out; unfold MayN; omega) (ri_nil w6))
  clear b6 hp hi hco hfr hw hct hnew ha lW MD hst hst2 y2 y3 f2 f3
  go_wp2_with fail
  refine (MD2.out).mono ?_; rintro e w7 ⟨b7, ⟨a', S', ha', rfl, hnew', hp', hi', hw', hco', hfr', hct'⟩ | ⟨hl, _⟩⟩
  rotate_left
  · exact absurd rfl hl
  have T7 := Lib.hid (two_new H6.out.1 H6.out.2.1 H6.out.2.2.1 hp' hi' ⟨hfr' rfl, hw'⟩ B6.out b7 H6.out.2.2.2.1 ha'.1 H6.out.2.2.2.2.1 hct' H6.out.2.2.2.2.2 hnew')
  have HAN := Lib.hid H6.out.2.2.2.1
  have PQV := Lib.hid (HV.out.1.below QB.out.2)
  clear b7 hp' hi' hco' hfr' hw' hct' hnew' ha' lQ MD2 H6 B6
  have HL1 := Lib.hid L1.out.len
  go_wp2
  go_loopw [57] (fun i wr => ∃ k : Nat, k ≤ l1.length ∧ i = .int .i64 k ∧ Hid (∃ S1 S2 X r, Two V4 wr a a' (3 + k) S1 S2 X r)) (fun i _ => l1.length - (intOf i).toNat)
  case atStart => exact ⟨0, Nat.zero_le _, rfl, Lib.hid ⟨_, _, _, _, T7.out⟩⟩
  case round =>
    clear T7
    obtain ⟨k, hk, rfl, H⟩ := hrel
    by_cases hlt : k < l1.length
    · obtain ⟨S1, S2, X1, r1, T⟩ := H.out
      obtain ⟨bb, off, hpp, _, hx⟩ := px_at (ra_below W1.out (below_more BV.out T.b)) (by omega)
      subst hpp
      obtain ⟨hld, hwf⟩ := hx k hlt
      have hbl := L1.out.bl k hlt
      have i0 : (0 : Int) ≤ (k : Int) := by omega
      have i1 : (k : Int) < (l1.length : Int) := by omega
      have i3 : ¬ (k : Int) < 0 := by omega
      have i4 : IntKind.i64.wrap ((k : Int) + 1) = ((k + 1 : Nat) : Int) := by rw [show (k : Int) + 1 = ((k + 1 : Nat) : Int) by omega]; exact i64_nat _ (by have := HL1.out; omega)
      have HK := Lib.hid hlt
      have hK3 : 3 + k < 1000 := by have := HL1.out; omega
      clear hx hk hlt
      generalize l1.getD k default = x at *
      obtain ⟨W9, hW9, hst, HB9⟩ := px_boxed wr x hwf.one
      have b9 : Below wr.heap.size wr W9.drew := HB9.out.2.drew
      have T9 := Lib.hid (T.below b9)
      have PX9 := Lib.hid (px_ok hwf (below_more BV.out T9.out.b) (by omega))
      have XF : Hid (x.bl = [] ∨ ∀ j, x.v.ownBlock = some j → j ∉ a.D) := Lib.hid (by
        rcases ra_low hwf.rv with q | q
        · exact .inl q
        · refine .inr fun j hj m => ?_
          have := q j hj
          have := T9.out.lo1 j m
          have := BV.out.size
          omega)
      have C1 := Lib.hid (two_first x T9.out hK3 PX9.out)
      have C2 := Lib.hid (fun pl v w' hH => two_second (w' := w') (pl := pl) (v := v) T9.out hK3 PX9.out XF.out hH)
      have hnD : wr.heap.size ∉ a.D ++ a'.D := fun q => by
        rcases List.mem_append.1 q with q | q
        · have := T.p1.dlt _ q; omega
        · have := T.p2.dlt _ q; omega
      have ldx : ∀ w', Chg (a.D ++ a'.D) W9 w' → (pxLoad (.pointer (some ⟨wr.heap.size, 0, none⟩))).run Tryz.prog w' = .ok (.agg (pxc x)) w' := fun w' hc => run_pxLoad fun j u hj => by rw [Whole.at_ (HB9.out.1.chg hc hnD), Nat.zero_add, ← hj]; simp [pxc]
      clear T hwf hbl H hnD b9
      go_wp2
      go_region_held3 (fun w' => Chg (a.D ++ a'.D) W9 w')
        (first | assumption | exact (Chg.refl _ _).drew)
        (first
          | (go_at_call 31; refine (C2.out pl va wa HH.out).mono ?_; rintro e wb ⟨vb, rfl, hrb, hra, hT, hc⟩
             have OO := Lib.hid (And.intro hra hrb)
             have TT := Lib.hid hT
             have SC2 : Chg (a.D ++ a'.D) W9 wb := ((Chg.refl _ _).drew).trans hc
             clear hra hrb hT hc SC1)
          | (go_at_call 31; refine (C1.out).mono ?_; rintro e wa ⟨pl, va, rfl, hH⟩
             have HH := Lib.hid hH
             have SC1 : Chg (a.D ++ a'.D) W9 wa := ((Chg.refl _ _).drew).trans (hH.c.mono fun k hk => List.mem_append_left _ hk)
             clear hH)
          | (go_at_call 41; refine (same_self OO.out.1 OO.out.2).mono ?_; rintro e wc ⟨rfl, bc⟩
             have BC := Lib.hid bc
             have SC3 : Chg (a.D ++ a'.D) W9 wc := SC2.trans (Chg.of_below bc _)
             clear bc SC2))
      have HN1 : Hid (∃ S1 S2 X r, Two V4 wc a a' (3 + (k + 1)) S1 S2 X r) := Lib.hid (by
        obtain ⟨S1', S2', q⟩ := TT.out
        exact ⟨_, _, _, _, q.below BC.out⟩)
      clear SC3 ldx C1 C2 hK3
      go_wp2
      go_roundw
      case rel => exact ⟨k + 1, by have := HK.out; omega, by go_num, HN1⟩
      case measure => have := HK.out; simp [intOf]; omega
    · obtain rfl : k = l1.length := by omega
      obtain ⟨S1, S2, X1, r1, T⟩ := H.out
      have R1 := Lib.hid T
      have CW1 := Lib.hid (hWords_is T.p1.hb T.i1.num T.i1.hc.lg T.i1.live T.i1.hc.has)
      have CW2 := Lib.hid (fun w' (hb : Below wr.heap.size wr w') => hWords_is (T.below hb).p2.hb T.i2.num T.i2.hc.lg T.i2.live T.i2.hc.has)
      have hXl : X1.length = 8 * N := by have := T.i1.len.1; rw [HAN.out] at this; exact this
      have HXL := Lib.hid hXl
      clear T H hk hlt hXl
      go_wp2_with fail
      refine (CW1.out).mono ?_; rintro e w8 ⟨⟨v8, rfl, o8⟩, b8⟩
      have O8 := Lib.hid o8
      have B8 := Lib.hid b8
      obtain ⟨q8, n8, rfl⟩ := o8.shape
      clear o8 b8
      go_wp2_with fail
      refine (CW2.out _ B8.out).mono ?_; rintro e w9 ⟨⟨v9, rfl, o9⟩, b9⟩
      have O9 := Lib.hid (And.intro (O8.out.below b9).ru o9.ru)
      have B9 := Lib.hid (below_more B8.out b9)
      obtain ⟨q9, n9, rfl⟩ := o9.shape
      clear o9 b9
      have SW := Lib.hid (words_same O9.out.1 O9.out.2)
      go_wp2_with fail
      refine (SW.out).mono ?_; rintro e w10 ⟨rfl, nn, rfl⟩
      have R10 := Lib.hid (R1.out.below (below_drewN B9.out nn))
      have a0 := (PQV.out.below R10.out.b).c0
      have i8 : IntKind.i64.wrap ((N : Int) * 8) = 8 * (N : Int) := by rw [show (N : Int) * 8 = ((8 * N : Nat) : Int) by omega, i64_nat _ (by have := HN.out; omega)]; omega
      have i9 : (X1.length : Int) = 8 * (N : Int) := by rw [HXL.out]; omega
      go_wp2_with fail
      refine (awake_any _).mono ?_; rintro e w13 ⟨rfl, b13⟩
      have D13 := Lib.hid (below_more BV.out (below_more R10.out.b b13))
      go_wp2_with fail
      go_ret
      exact ⟨rfl, D13.out⟩
set_option maxRecDepth 100000 in
theorem lifted (os : Os) (started : os.Started) (H : Type) (enc : TypeId × Value → H) :
    ReturnsInHanded {} Tryz.checked os 9 .any (Rows.heapTwoSpec.pre6 enc Tryz.prog Tryz.f9 Rows.heapTwoRow.domain false) (Rows.heapTwoSpec.post enc Tryz.prog Tryz.f9 false true false false) := by
  refine returnsInHanded_of_change (C := Tryz.checked) own started (by kernel_rfl) Tryz.func9
    (ChangeSpec.witness6 (enc := enc) (C := Tryz.checked) false ⟨#[], #[.agg #[.int .i64 0, .int .i64 0, .int .i64 0, .int .i64 0], .slice none 0 0, .int .i64 0], []⟩ 8 (by kernel_rfl) (by kernel_rfl) (by kernel_rfl) (by kernel_rfl)) ?_
  intro W base args ds gs before hval0 hW hcnd _
  have hval : ∀ (j : Nat) t v, Tryz.f9.params[j]? = some t → args[j]? = some v → Value.okWide Tryz.prog W .any base t v := hval0
  have hW' := hW
  have hlt := hW.lt
  obtain ⟨p, q, hA0, hV, hpq, hfz, hnd⟩ := hW
  have hA : DataW.TrodAll enc Tryz.prog W 0 (fun _ => true) true Tryz.f9.params.toList args.toList ds p := hA0
  rw [Tryz.params9] at hA hval
  obtain ⟨v0, vs0, d0, ds0, p0, q0, hargs, rfl, hp, h0, r0⟩ := trodAll_cons hA
  obtain ⟨v1, vs1, d1, ds1, p1, q1, rfl, rfl, rfl, h1, r1⟩ := trodAll_cons r0
  obtain ⟨v2, vs2, d2, ds2, p2, q2, rfl, rfl, rfl, h2, r2⟩ := trodAll_cons r1
  obtain ⟨rfl, rfl, rfl⟩ := trodAll_nil r2
  obtain rfl : args = #[v0, v1, v2] := by cases args; simp_all
  obtain ⟨rfl, rfl⟩ := trodVars_none hV
  have hlt' : ∀ x ∈ before, x.block < W.heap.size := fun x hx => hlt x hx
  obtain ⟨c0, e0, g0, k0, rfl, w0⟩ := plan_in (hval 0 23 v0 rfl rfl) h0
  obtain ⟨l1, w1⟩ := hops_in (hval 1 25 v1 rfl rfl) h1
  obtain ⟨a2, rfl, rfl, rfl, w2⟩ := open_int Tryz.underlying3 (hval 2 3 v2 rfl rfl) h2
  refine (walk c0 e0 g0 k0 l1 v1 a2 W w0 w1 w2).mono fun e W' ⟨he, hb⟩ => ?_
  subst he
  exact ⟨_, rfl, law_post rfl (by kernel_rfl) hW' (by rw [Tryz.params9]; intro t ht; simp only [List.mem_cons, List.not_mem_nil, or_false] at ht; (repeat' (first | (rcases ht with rfl | ht) | subst ht)) <;> exact ⟨by kernel_rfl, of_decide_eq_true (by kernel_rfl)⟩) rfl hb⟩

theorem over : Rows.heapTwoRow.holds Tryz.pinned (OpenSpec.ofChange Rows.heapTwoSpec) :=
  OpenClaim.holds_of_wide 9 Tryz.f9 rfl rfl rfl rfl rfl rfl rfl ⟨rfl, rfl, rfl, rfl, rfl⟩ rfl rfl rfl rfl rfl (by kernel_rfl) Tryz.func9 (by kernel_rfl)
    (of_decide_eq_true (by kernel_rfl)) (by unfold Func.isWrapper; first | (rw [if_pos (by decide +kernel)]; kernel_rfl) | (rw [if_neg (by decide +kernel)]; exact ⟨rfl, rfl⟩))
    (fun os started H enc _ => lifted os started H enc)

theorem proved : Rows.HeapTwoSaid := over
end Go.Proofs.YtjkefcidbcifpaaGreat.heapTwo
