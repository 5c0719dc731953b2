/-
  From any number of moves on a memory of noughts is lines of noughts, and each that is put is found; with too many moves there are none. No conditions.
-/
import Derived.Test.YtjchmkgkibiadaaTnw
import Derived.Test.YtjchmkgkibiadaaTnf
namespace Go.Proofs.Ytjchmkgkibiadaa.turnFrom
open Go.Proofs.Ytjchmkgkibiadaa Go.ChangeShapes Go.WideShapes Go.ChangeAt Go.RowKit

/-- the lines, behind the Put -/
structure Kf (w : World) (x q g b0 n : Nat) (d : List Int) (wr : World) (s : Nv) : Prop where
  nm : Nm wr g s
  lq : Lq wr q g (n + 1) 0
  tq : Tq wr x g q n 1000 1
  ln : Ln wr b0 d
  bel : Below w.heap.size w wr
theorem Kf.below {w : World} {x q g b0 n : Nat} {d : List Int} {wr wr' : World} {s : Nv} (h : Kf w x q g b0 n d wr s) (hb : Below wr.heap.size wr wr') : Kf w x q g b0 n d wr' s :=
  ⟨h.nm.below hb, h.lq.below hb, h.tq.below hb, h.ln.below hb, below_base h.bel h.bel.size hb⟩

theorem plain {n M k : Nat} {d : List Int} (h1 : 1 ≤ n) (h2 : n ≤ 20) (hM : M < 1099511627776) (hk : k < n) (hd : d.length = 8) :
    ∃ s1 s2 s3, (newNv (n + 1) []).set ((0 : Nat) : Int) (M : Int) = s1 ∧ (newNv (n + 1) []).setE ((0 : Nat) : Int) = 0 ∧ TOk s1 n 0 M ∧ tput n 0 1000 0 M k d s1 = (0, s2) ∧ TOk s2 n 0 M ∧
      (∀ b, b < n → thold s2 n 0 M b = if b = k then d else [0, 0, 0, 0, 0, 0, 0, 0]) ∧ s2.set ((0 : Nat) : Int) 2199023255552 = s3 ∧ s2.setE ((0 : Nat) : Int) = 0 ∧ TOk s3 n 0 2199023255552 ∧ s1.c ≤ 1 ∧ s2.c ≤ 100 := by
  have C0 := newNv_calm (n + 1) []
  have F0 := newNv_free (n + 1)
  have T0 := newNv_tok (n := n) (P := 0) h1 (by decide) (by omega) []
  have e1 := C0.set (k := 0) (by decide) (M : Int)
  have F1 := F0.set0 (M : Int)
  have o1 := T0.l.ok.set ((0 : Nat) : Int) (M : Int)
  have T1 : TOk ((newNv (n + 1) []).set ((0 : Nat) : Int) (M : Int)) n 0 M := by
    refine ⟨⟨o1, ?_, by decide, ?_, ?_⟩, ?_, by omega⟩
    · rw [e1]; rfl
    · rw [e1]; exact T0.l.may
    · rw [e1]; rfl
    · rw [e1]; show upd (newNv (n + 1) []).rg 0 (M : Int) 0 = _; exact upd_same _ _ _
  have F1' : Free ((newNv (n + 1) []).set ((0 : Nat) : Int) (M : Int)) := by rw [e1]; exact F1
  obtain ⟨s2, a1, a2, a3, a4, a5, _⟩ := tput_free (per := 1000) (p := 0) (a := k) (d := d) T1 F1' h1 hk hd (by omega)
  have ht : td 1000 0 = 0 := rfl
  rw [ht, Nat.add_zero] at a2 a4
  have e3 := a3.calm.set (k := 0) (by decide) 2199023255552
  have o3 := a2.l.ok.set ((0 : Nat) : Int) 2199023255552
  have hc1 : ((newNv (n + 1) []).set ((0 : Nat) : Int) (M : Int)).c ≤ 1 := by rw [e1]; exact Int.le_refl _
  refine ⟨_, s2, _, rfl, C0.setE (k := 0) (by decide), T1, a1, a2, fun b hb => ?_, rfl, a3.calm.setE (k := 0) (by decide), ⟨⟨o3, ?_, by decide, ?_, ?_⟩, ?_, by decide⟩, hc1, by omega⟩
  · rw [a4 b hb]
    split
    · rfl
    · rw [e1]; rfl
  · rw [e3]; exact a2.l.n
  · rw [e3]; exact a2.l.may
  · rw [e3]; exact a2.l.live
  · rw [e3]; show upd s2.rg 0 2199023255552 0 = _; exact upd_same _ _ _

set_option maxRecDepth 100000 in
set_option maxHeartbeats 4000000 in
theorem walk (a0 a1 a2 : Int) (d : List Int) (w : World) (_ : (Lit.int .i64 a0).wf = true) (hw1 : (Lit.int .u64 a1).wf = true) (_ : (Lit.int .i64 a2).wf = true) (hd8 : d.length = 8) (_ : ∀ x ∈ d, (Lit.int .u64 x).wf = true) :
    Calls Try.prog 8 #[.int .i64 a0, .int .u64 a1, .int .i64 a2, .agg (lc d)] w fun e w' => e = .returned (.bool true) ∧ Below w.heap.size w w' := by
  obtain ⟨u0, hu0, _⟩ := u64_nat a0
  obtain ⟨m, hm⟩ : ∃ m, m = u0 % 20 := ⟨_, rfl⟩
  have t0 : (u0 : Int).tmod 20 = (m : Int) := by rw [hm]; exact tmod_nat u0 20
  obtain ⟨n, hn⟩ : ∃ n : Nat, n = m + 1 := ⟨_, rfl⟩
  have k0 : IntKind.i64.wrap (m : Int) = m := i64_nat _ (by omega)
  have k1 : IntKind.i64.wrap (1 + (m : Int)) = (n : Int) := by rw [show 1 + (m : Int) = (n : Int) by omega]; exact i64_nat _ (by omega)
  obtain ⟨u1, rfl, _⟩ := nat_of_u64 hw1
  obtain ⟨M, hM⟩ : ∃ M, M = u1 % 1099511627776 := ⟨_, rfl⟩
  have t1 : (u1 : Int).tmod 1099511627776 = (M : Int) := by rw [hM]; exact tmod_nat u1 1099511627776
  have hMb : M < 1099511627776 := by omega
  have k2 : IntKind.i64.wrap (M : Int) = M := i64_nat _ (by omega)
  obtain ⟨u2, hu2, _⟩ := u64_nat a2
  obtain ⟨k, hk⟩ : ∃ k, k = u2 % n := ⟨_, rfl⟩
  have t2 : (u2 : Int).tmod (n : Int) = (k : Int) := by rw [hk]; exact tmod_nat u2 n
  have hkn : k < n := by rw [hk]; exact Nat.mod_lt _ (by omega)
  have k3 : IntKind.u64.wrap (n : Int) = (n : Int) := u64_same (by omega) (by omega)
  have k4 : IntKind.i64.wrap (k : Int) = k := i64_nat _ (by omega)
  have k5 : ¬ n = 0 := by omega
  have k6 : ¬ (n : Int) = 0 := by omega
  obtain ⟨n1, hn1⟩ : ∃ n1 : Nat, n1 = n + 1 := ⟨_, rfl⟩
  have k7 : IntKind.i64.wrap ((n : Int) + 1) = (n1 : Int) := by rw [show (n : Int) + 1 = (n1 : Int) by omega]; exact i64_nat _ (by omega)
  obtain ⟨s1, s2, s3, r1, r2, r3, r4, r5, r6, r7, r8, r9, r10, r11⟩ := plain (n := n) (M := M) (k := k) (d := d) (by omega) (by omega) hMb hkn hd8
  have HB : Hid (1 ≤ n ∧ n ≤ 20 ∧ M < 1099511627776 ∧ k < n ∧ n1 = n + 1) := Lib.hid ⟨by omega, by omega, hMb, hkn, hn1⟩
  have ok0 := newNv_ok (n := n1) (by omega) (by omega) []
  have c0 : (newNv n1 []).c < 4611686018427387904 := by show (0 : Int) < _; decide
  rw [← hn1] at r1 r2
  obtain ⟨s0, e0⟩ : ∃ s0, newNv n1 [] = s0 := ⟨_, rfl⟩
  rw [e0] at r1 r2 ok0 c0
  have H1 := Lib.hid r1; have H2 := Lib.hid r2; have H3 := Lib.hid r3; have H4 := Lib.hid r4; have H5 := Lib.hid r5; have H6 := Lib.hid r6; have H7 := Lib.hid r7; have H8 := Lib.hid r8; have H9 := Lib.hid r9
  have HC : Hid (s0.c < 4611686018427387904 ∧ s1.c + 500 < 4611686018427387904 ∧ s2.c < 4611686018427387904) := Lib.hid ⟨c0, by omega, by omega⟩
  have O0 := Lib.hid ok0
  have O2 := Lib.hid r5.l.ok
  clear r1 r2 r3 r4 r5 r6 r7 r8 r9 r10 r11 c0 ok0 hm hn hM hMb hk hkn hn1 hw1
  obtain ⟨b0, hb0⟩ : ∃ b0, w.heap.size = b0 := ⟨_, rfl⟩
  obtain ⟨W0, hW0, I0⟩ := boxed1 w hd8
  rw [hb0] at I0
  have B0 : Hid (Below w.heap.size w W0) := Lib.hid (by rw [hb0]; exact I0.out.2)
  have LN0 := Lib.hid I0.out.1
  have HB0 := Lib.hid hb0
  clear I0
  go_enter Try.func8, Try.ntmps8
  go_wp2_with fail
  refine (new_yes n1 _ [] W0 (by have := HB.out; omega) (by have := HB.out; omega) (ri_nil _)).mono ?_; rintro e w1 ⟨g, rfl, hg, hN, hb⟩
  rw [e0] at hN
  have N1 := Lib.hid hN
  have G1 : Hid (w.heap.size ≤ g ∧ b0 ≠ g) := Lib.hid ⟨Nat.le_trans B0.out.size hg, by have := LN0.out.1.lt; omega⟩
  have B1 := Lib.hid (below_more B0.out hb)
  have LN1 := Lib.hid (LN0.out.below hb)
  clear hN hg hb
  have S1 := set_is H2.out H1.out N1.out O0.out HC.out.1
  rw [show ((0 : Nat) : Int) = 0 from rfl] at S1
  go_wp2_with fail
  refine (S1).mono ?_; rintro e w2 ⟨rfl, hN, _, hC⟩
  have N2 := Lib.hid hN
  have B2 := Lib.hid (hC.own B1.out G1.out.1)
  have LN2 := Lib.hid (hC.ln LN1.out (by simpa using G1.out.2))
  clear hN hC S1
  go_wp2_with fail
  refine (tnew_yes (per := 1000) H3.out HB.out.1 (by have := HB.out; omega) (by decide) (by decide) (by have := HB.out; omega) N2.out).mono ?_; rintro e w3 ⟨x, q, rfl, hx, hq, hxq, hQ, hT, hb⟩
  have KK : Hid (q ≠ g ∧ x ≠ g ∧ x ≠ q ∧ b0 ≠ x ∧ w.heap.size ≤ x) := Lib.hid ⟨by have := N2.out.lt; omega, by have := N2.out.lt; omega, hxq, by have := LN2.out.1.lt; omega, Nat.le_trans B2.out.size hx⟩
  have N3 := Lib.hid (N2.out.below hb)
  have Q3 := Lib.hid hQ
  have T3 := Lib.hid hT
  have B3 := Lib.hid (below_more B2.out hb)
  have LN3 := Lib.hid (LN2.out.below hb)
  have ll := LN3.out.load
  clear hx hq hxq hQ hT hb
  go_wp2_with fail
  refine (tmv_is H3.out T3.out N3.out).mono ?_; rintro e w' ⟨rfl, rfl⟩
  go_wp2_with fail
  refine (tput_is H4.out H3.out (by have := HB.out; omega) HB.out.2.2.2.1 hd8 (by have := HB.out; omega) (by decide) KK.out.1 KK.out.2.1 KK.out.2.2.1 HC.out.2.1 T3.out Q3.out N3.out).mono ?_; rintro e w4 ⟨rfl, hN, hT, hQ, hC⟩
  have KF : Hid (Kf w x q g b0 n d w4 s2) := Lib.hid ⟨hN, hQ, hT, hC.ln LN3.out (by have := G1.out.2; have := KK.out.2.2.2.1; simp; omega), hC.below B3.out B3.out.size (fun k hk => by rcases List.mem_cons.1 hk with rfl | hk; exact G1.out.1; rw [List.mem_singleton.1 hk]; exact KK.out.2.2.2.2)⟩
  clear hN hT hQ hC ll t0 t1 t2 k0 k1 k2 k3 k4 k7
  go_wp2
  go_loopw [52] (fun i wi => ∃ j : Nat, j ≤ n ∧ i = .int .i64 j ∧ Hid (Kf w x q g b0 n d wi s2)) (fun i _ => n - (intOf i).toNat)
  case atStart => exact ⟨0, Nat.zero_le _, rfl, KF⟩
  case round =>
    obtain ⟨j, hj, rfl, KI⟩ := hrel
    clear KF
    by_cases hjl : j < n
    · have i6 : (0 : Int) ≤ (j : Int) := by omega
      have i7 : (j : Int) < (n : Int) := by omega
      have hj40 : j < 20 := by have := HB.out.2.1; omega
      by_cases hjk : j = k
      · subst hjk
        have EY := Lib.hid ((H6.out j hjl).trans (if_pos rfl))
        go_wp2_with fail
        refine (tget_is EY.out H5.out (by have := HB.out; omega) hjl KI.out.tq KI.out.lq KI.out.nm).mono ?_; rintro e w5 ⟨rfl, hb⟩
        obtain ⟨W1, hW1, H1⟩ := boxed1 w5 hd8
        have KM := Lib.hid ((KI.out.below hb).below H1.out.2)
        have l1 := H1.out.1.load
        have l2 := KM.out.ln.load
        clear hb
        go_wp2
        exact ⟨⟨j + 1, by omega, by go_num, KM⟩, by simp [intOf]; omega⟩
      · have EY := Lib.hid ((H6.out j hjl).trans (if_neg hjk))
        have n1 : ((j : Int) == (k : Int)) = false := by simp; omega
        have n2 : ((j : Int) != (k : Int)) = true := by simp; omega
        go_wp2_with fail
        refine (tget_is EY.out H5.out (by have := HB.out; omega) hjl KI.out.tq KI.out.lq KI.out.nm).mono ?_; rintro e w5 ⟨rfl, hb⟩
        obtain ⟨W1, hW1, H1⟩ := boxed1 w5 (a := [0, 0, 0, 0, 0, 0, 0, 0]) rfl
        have hst : (lineStore (.pointer (some ⟨w5.heap.size, 0, none⟩)) (.agg (lc [0, 0, 0, 0, 0, 0, 0, 0]))).run Try.prog W1 = .ok () W1 := by rw [← hW1]; exact store_new w5 zeros zeros rfl rfl
        have KM := Lib.hid ((KI.out.below hb).below H1.out.2)
        have l1 := H1.out.1.load
        clear hb
        go_wp2
        exact ⟨⟨j + 1, by omega, by go_num, KM⟩, by simp [intOf]; omega⟩
    · obtain rfl : j = n := by omega
      have S1 := set_is H8.out H7.out KI.out.nm O2.out HC.out.2.2
      rw [show ((0 : Nat) : Int) = 0 from rfl] at S1
      go_wp2_with fail
      refine (S1).mono ?_; rintro e w5 ⟨rfl, hN, _, hC⟩
      have N5 := Lib.hid hN
      have B5 := Lib.hid (hC.own KI.out.bel G1.out.1)
      clear hN hC S1
      go_wp2_with fail
      refine (tnew_over (per := 1000) H9.out HB.out.1 (by have := HB.out; omega) (by decide) (by decide) (by decide) N5.out).mono ?_; rintro e w6 ⟨rfl, hb⟩
      have B6 := Lib.hid (below_more B5.out hb)
      clear hb
      go_wp2_with fail
      refine (awake_any _).mono ?_; rintro e w7 ⟨rfl, hb⟩
      have B7 := Lib.hid (below_more B6.out hb)
      go_wp2
      go_ret
      exact ⟨rfl, B7.out⟩

set_option maxRecDepth 100000 in
theorem lifted (os : Os) (started : os.Started) (H : Type) (enc : TypeId × Value → H) :
    ReturnsInHanded {} Try.checked os 8 .any (Rows.turnFromSpec.pre6 enc Try.prog Try.f8 Rows.turnFromRow.domain false) (Rows.turnFromSpec.post enc Try.prog Try.f8 false true false false) := by
  refine returnsInHanded_of_change (C := Try.checked) own started (by kernel_rfl) Try.func8
    (ChangeSpec.witness6 (enc := enc) (C := Try.checked) false ⟨#[], #[.int .i64 0, .int .u64 0, .int .i64 0, .agg #[.int .u64 0, .int .u64 0, .int .u64 0, .int .u64 0, .int .u64 0, .int .u64 0, .int .u64 0, .int .u64 0]], []⟩ 8 (by kernel_rfl) (by kernel_rfl) (by kernel_rfl) (by kernel_rfl)) ?_
  intro W base args ds gs before hval0 hW hcnd _
  have hval : ∀ (j : Nat) t v, Try.f8.params[j]? = some t → args[j]? = some v → Value.okWide Try.prog W .any base t v := hval0
  have hW' := hW
  have hlt := hW.lt
  obtain ⟨p, q, hA0, hV, hpq, hfz, hnd⟩ := hW
  have hA : DataW.TrodAll enc Try.prog W 0 (fun _ => true) true Try.f8.params.toList args.toList ds p := hA0
  rw [Try.params8] at hA hval
  obtain ⟨v0, vs0, d0, ds0, p0, q0, hargs, rfl, hp, h0, r0⟩ := trodAll_cons hA
  obtain ⟨v1, vs1, d1, ds1, p1, q1, rfl, rfl, rfl, h1, r1⟩ := trodAll_cons r0
  obtain ⟨v2, vs2, d2, ds2, p2, q2, rfl, rfl, rfl, h2, r2⟩ := trodAll_cons r1
  obtain ⟨v3, vs3, d3, ds3, p3, q3, rfl, rfl, rfl, h3, r3⟩ := trodAll_cons r2
  obtain ⟨rfl, rfl, rfl⟩ := trodAll_nil r3
  obtain rfl : args = #[v0, v1, v2, v3] := by cases args; simp_all
  obtain ⟨rfl, rfl⟩ := trodVars_none hV
  have hlt' : ∀ x ∈ before, x.block < W.heap.size := fun x hx => hlt x hx
  obtain ⟨a0, rfl, rfl, rfl, w0⟩ := open_int Try.underlying3 (hval 0 3 v0 rfl rfl) h0
  obtain ⟨a1, rfl, rfl, rfl, w1⟩ := open_int Try.underlying25 (hval 1 25 v1 rfl rfl) h1
  obtain ⟨a2, rfl, rfl, rfl, w2⟩ := open_int Try.underlying3 (hval 2 3 v2 rfl rfl) h2
  obtain ⟨l3, rfl, n3, w3⟩ := line_in (hval 3 33 v3 rfl rfl) h3
  refine (walk a0 a1 a2 l3 W w0 w1 w2 n3 w3).mono fun e W' ⟨he, hb⟩ => ?_
  subst he
  exact ⟨_, rfl, law_post rfl (by kernel_rfl) hW' (by rw [Try.params8]; intro t ht; simp only [List.mem_cons, List.not_mem_nil, or_false] at ht; (repeat' (first | (rcases ht with rfl | ht) | subst ht)) <;> exact ⟨by kernel_rfl, of_decide_eq_true (by kernel_rfl)⟩) rfl hb⟩

theorem over : Rows.turnFromRow.holds Try.pinned (OpenSpec.ofChange Rows.turnFromSpec) :=
  OpenClaim.holds_of_wide 8 Try.f8 rfl rfl rfl rfl rfl rfl rfl ⟨rfl, rfl, rfl, rfl, rfl⟩ rfl rfl rfl rfl rfl (by kernel_rfl) Try.func8 (by kernel_rfl)
    (of_decide_eq_true (by kernel_rfl)) (by unfold Func.isWrapper; first | (rw [if_pos (by decide +kernel)]; kernel_rfl) | (rw [if_neg (by decide +kernel)]; exact ⟨rfl, rfl⟩))
    (fun os started H enc _ => lifted os started H enc)

theorem proved : Rows.TurnFromSaid := over
end Go.Proofs.Ytjchmkgkibiadaa.turnFrom
