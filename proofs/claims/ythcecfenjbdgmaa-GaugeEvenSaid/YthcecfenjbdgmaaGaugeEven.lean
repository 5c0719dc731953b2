/-
  Where all lines are written as often, it is even: one; where none is, there is no number; with one write more of one line it is more than one, unless there is but one. No conditions.
-/
import Derived.Test.YthcecfenjbdgmaaGue
namespace Go.Proofs.Ythcecfenjbdgmaa.gaugeEven
set_option maxRecDepth 100000
open Go.Proofs.Ythcecfenjbdgmaa Go.Proofs.Ythcecfenjbdgmaa.D Go.ChangeShapes Go.WideShapes Go.ChangeAt Go.RowKit

/-- what is asked of n writes of each of q + 1 lines, and of one write more -/
def chk (n q : Nat) : Bool :=
  let u := qr (W n) (Q ((q + 1) * n) (q + 1))
  let v := qr (W (n + 1)) (Q (n + 1 + q * n) (q + 1))
  u == 4607182418800017408 && (if q = 0 then v == 4607182418800017408 else decide (4607182418800017408 < v) && decide (v ≤ 9218868437227405312))
theorem chk_all : ∀ n : Fin 19, ∀ q : Fin 50, chk (n + 1) q = true := by decide +kernel

theorem S_rep (L n : Nat) : S (List.replicate L n) = L * n := by simp [S]
theorem top_rep (L n : Nat) (h : 1 ≤ L) : top (List.replicate L n) = n := by
  refine Nat.le_antisymm (top_le fun x hx => Nat.le_of_eq (List.mem_replicate.1 hx).2) (top_ge (List.mem_replicate.2 ⟨by omega, rfl⟩))
theorem held_rep (L n : Nat) (h : n ≤ 1000000) : held (byF L fun _ => (n : Int)) = List.replicate L n := by
  refine List.ext_getElem (by simp [held, byF]) fun i h1 h2 => ?_
  simp [held, byF, hn_small h]
theorem byF_cons (q : Nat) (f : Nat → Int) : byF (q + 1) f = f 0 :: byF q fun k => f (k + 1) := by
  refine List.ext_getElem (by simp [byF]) fun i h1 h2 => ?_
  cases i with
  | zero => simp [byF]
  | succ i => simp [byF]

/-- what was written behind r rounds, and k lines of the next -/
structure At (L r k : Nat) (s : Nv) : Prop where
  calm : Calm L (r * L + k) s
  wr : ∀ i, i < L → s.wr i = ((r + (if i < k then 1 else 0) : Nat) : Int)
theorem start {L : Nat} (h1 : 1 ≤ L) (h2 : L ≤ 200) : At L 0 0 (newNv L []) :=
  ⟨by simpa using calm_new h1 h2, fun i hi => by simp [newNv]⟩
theorem At.next {L r k : Nat} {s : Nv} (h : At L r k s) (hk : k < L) (x : Int) : At L r (k + 1) (s.put k (one1 x)) ∧ s.putE k = 0 := by
  obtain ⟨f1, f2, f3⟩ := h.calm.put hk x
  refine ⟨⟨f1, fun i hi => ?_⟩, f2⟩
  rw [f3]
  by_cases e : i = k
  · subst e
    rw [upd_same, h.wr i hi, if_neg (by omega), if_pos (by omega)]; simp
  · rw [upd_other _ _ e, h.wr i hi]
    by_cases h2 : i < k
    · rw [if_pos h2, if_pos (by omega)]
    · rw [if_neg h2, if_neg (by omega)]
theorem At.round {L r : Nat} {s : Nv} (h : At L r L s) : At L (r + 1) 0 s := by
  refine ⟨?_, fun i hi => by rw [h.wr i hi, if_pos hi]; simp⟩
  have := h.calm
  rwa [show r * L + L = (r + 1) * L + 0 by rw [Nat.add_mul]; omega] at this
theorem At.even {L r : Nat} {s : Nv} (h : At L r 0 s) : wrs s 0 (L : Int) = byF L fun _ => (r : Int) := by
  rw [wrs_all h.calm.nn]
  refine List.map_congr_left fun k hk => ?_
  rw [h.wr k (List.mem_range.1 hk)]; simp
/-- none was written -/
theorem At.none {L : Nat} {s : Nv} (h : At L 0 0 s) : unV (held (wrs s 0 (L : Int))) = 9221120237041090561 := by
  have e : (byF L fun _ => ((0 : Nat) : Int)) = byF L fun _ => (0 : Int) := rfl
  rw [h.even, held_rep L 0 (by decide)]
  unfold unV
  rw [if_pos (.inr (.inr (by rw [S_rep]; simp)))]; rfl
theorem At.one {L r : Nat} {s : Nv} (h : At L (r + 1) 0 s) (h1 : 1 ≤ L) (h2 : L ≤ 50) (h3 : r < 19) : unV (held (wrs s 0 (L : Int))) = 4607182418800017408 := by
  have c := chk_all ⟨r, h3⟩ ⟨L - 1, by omega⟩
  rw [h.even, held_rep L (r + 1) (by omega)]
  unfold unV
  rw [S_rep, top_rep L _ h1, List.length_replicate, if_neg (by have := Nat.mul_pos (show 0 < L by omega) (show 0 < r + 1 by omega); omega)]
  unfold chk at c
  simp only [Bool.and_eq_true, beq_iff_eq] at c
  have := c.1
  rwa [show L - 1 + 1 = L by omega] at this
/-- one line was written once more -/
theorem At.more {L r : Nat} {s : Nv} (h : At L (r + 1) 1 s) (h1 : 1 ≤ L) (h2 : L ≤ 50) (h3 : r < 19) :
    ∃ v, unV (held (wrs s 0 (L : Int))) = v ∧ (L = 1 → v = 4607182418800017408) ∧ (L ≠ 1 → v < 2 ^ 64 ∧ cmp3 (rk v) (rk 4607182418800017408) = 1) := by
  obtain ⟨q, rfl⟩ : ∃ q, L = q + 1 := ⟨L - 1, by omega⟩
  have c := chk_all ⟨r, h3⟩ ⟨q, by omega⟩
  have e : wrs s 0 ((q + 1 : Nat) : Int) = ((r + 2 : Nat) : Int) :: byF q fun _ => ((r + 1 : Nat) : Int) := by
    rw [wrs_all h.calm.nn, byF_cons, h.wr 0 (by omega)]
    have e1 : (byF q fun k => s.wr (k + 1)) = byF q fun _ => ((r + 1 : Nat) : Int) := List.map_congr_left fun k hk => by
      have := List.mem_range.1 hk
      rw [h.wr (k + 1) (by omega), if_neg (by omega)]
    rw [e1, if_pos (by omega)]
  have e2 : held (wrs s 0 ((q + 1 : Nat) : Int)) = (r + 2) :: List.replicate q (r + 1) := by
    rw [e]
    show hn _ :: held _ = _
    rw [hn_small (by omega), held_rep q (r + 1) (by omega)]
  have t : top ((r + 2) :: List.replicate q (r + 1)) = r + 2 := by
    refine Nat.le_antisymm (top_le fun x hx => ?_) (top_ge (List.mem_cons_self ..))
    rcases List.mem_cons.1 hx with rfl | hx
    · exact Nat.le_refl _
    · rw [(List.mem_replicate.1 hx).2]; omega
  have sm : S ((r + 2) :: List.replicate q (r + 1)) = r + 1 + 1 + q * (r + 1) := by rw [S_cons, S_rep]
  refine ⟨_, rfl, ?_⟩
  rw [e2]
  unfold unV
  rw [sm, t, if_neg (by simp; omega)]
  rw [show ((r + 2) :: List.replicate q (r + 1)).length = q + 1 by simp]
  unfold chk at c
  simp only [Bool.and_eq_true, beq_iff_eq] at c
  obtain ⟨_, c⟩ := c
  constructor
  · intro h
    obtain rfl : q = 0 := by omega
    simpa using c
  · intro h
    rw [if_neg (by omega)] at c
    simp only [Bool.and_eq_true, decide_eq_true_eq] at c
    obtain ⟨c1, c2⟩ := c
    have a1 : qr (W (r + 1 + 1)) (Q (r + 1 + 1 + q * (r + 1)) (q + 1)) ≤ inf := c2
    show qr (W (r + 1 + 1)) _ < 2 ^ 64 ∧ cmp3 (rk (qr (W (r + 1 + 1)) _)) _ = 1
    generalize qr (W (r + 1 + 1)) (Q (r + 1 + 1 + q * (r + 1)) (q + 1)) = v at *
    refine ⟨by omega, ?_⟩
    have hv : rk v = (v : Int) := by
      unfold rk; rw [nan_small a1, sgn_small (lt63 a1), rung_small (lt63 a1)]; simp
    have ho : rk 4607182418800017408 = 4607182418800017408 := by decide
    rw [hv, ho]
    unfold cmp3; rw [if_neg (by omega), if_pos (by omega)]

set_option maxRecDepth 100000 in
set_option maxHeartbeats 4000000 in
theorem walk (a0 a1 : Int) (w : World) (_ : (Lit.int .i64 a0).wf = true) (_ : (Lit.int .i64 a1).wf = true) :
    Calls Try.prog 5 #[.int .i64 a0, .int .i64 a1] w fun e w' => e = .returned (.bool true) ∧ Below w.heap.size w w' := by
  obtain ⟨x, hx, _⟩ := u64_nat a0
  obtain ⟨y, hy, _⟩ := u64_nat a1
  obtain ⟨L, hL⟩ : ∃ L, L = 1 + x % 50 := ⟨_, rfl⟩
  obtain ⟨n, hn⟩ : ∃ n, n = y % 20 := ⟨_, rfl⟩
  have h1 : 1 ≤ L := by omega
  have h2 : L ≤ 50 := by omega
  have h3 : n < 20 := by omega
  have t1 : (x : Int).tmod 50 = (L : Int) - 1 := by have h := tmod_nat x 50; rw [show ((50 : Nat) : Int) = 50 from rfl] at h; omega
  have t2 : (y : Int).tmod 20 = (n : Int) := by have h := tmod_nat y 20; rw [show ((20 : Nat) : Int) = 20 from rfl] at h; omega
  have k1 : IntKind.i64.wrap ((L : Int) - 1) = (L : Int) - 1 := isN _ (by omega) (by omega)
  have t3 : (1 : Int) + ((L : Int) - 1) = (L : Int) := by omega
  have k2 : IntKind.i64.wrap (L : Int) = (L : Int) := isN _ (by omega) (by omega)
  have k3 : IntKind.i64.wrap (n : Int) = (n : Int) := isN _ (by omega) (by omega)
  have o1 : (FloatKind.f64.format.order 4607182418800017408 4607182418800017408 == some .eq) = true := by decide +kernel
  have o2 : (FloatKind.f64.format.order 9221120237041090561 9221120237041090561 != some .eq) = true := by decide +kernel
  have A0 := start h1 (show L ≤ 200 by omega)
  obtain ⟨s0, e0⟩ : ∃ s0, newNv L [] = s0 := ⟨_, rfl⟩
  rw [e0] at A0
  have HA := Lib.hid A0
  have E0 := Lib.hid e0
  have HN : Hid (1 ≤ L ∧ L ≤ 50 ∧ n < 20) := Lib.hid ⟨h1, h2, h3⟩
  clear hL hn h1 h2 h3 A0 e0
  go_enter Try.func5, Try.ntmps5
  go_wp2_with fail
  refine (new_yes L _ [] _ HN.out.1 (by have := HN.out; omega) (ri_nil w)).mono ?_; rintro e w1 ⟨g, rfl, hg, hN, hb⟩
  rw [E0.out] at hN
  have hg' : Hid (w.heap.size ≤ g) := Lib.hid hg
  have N0 := Lib.hid hN
  have B1 := Lib.hid hb
  clear hg hN hb
  go_wp2
  go_loopw [6, 21, 24] (fun _ i _ wr => ∃ r : Nat, r ≤ n ∧ i = .int .i64 r ∧ Hid (∃ s, Nm wr g s ∧ At L r 0 s ∧ Below w.heap.size w wr)) (fun _ i _ _ => n - (intOf i).toNat)
  case atStart => exact ⟨0, Nat.zero_le _, rfl, Lib.hid ⟨_, N0.out, HA.out, B1.out⟩⟩
  case round =>
    obtain ⟨r, hr, rfl, H⟩ := hrel
    clear N0 HA B1 E0
    by_cases hlt : r < n
    · have j0 : IntKind.i64.wrap ((r : Int) + 1) = ((r + 1 : Nat) : Int) := by rw [show (r : Int) + 1 = ((r + 1 : Nat) : Int) by omega]; exact i64_nat _ (by have := HN.out; omega)
      go_wp2
      go_loopw [6, 24] (fun _ i wr => ∃ k : Nat, k ≤ L ∧ i = .int .i64 k ∧ Hid (∃ s, Nm wr g s ∧ At L r k s ∧ Below w.heap.size w wr)) (fun _ i _ => L - (intOf i).toNat)
      case atStart => exact ⟨0, Nat.zero_le _, rfl, H⟩
      case round =>
        obtain ⟨k, hk, rfl, H⟩ := hrel
        obtain ⟨s, hN, hA, hB⟩ := H.out
        have SN := Lib.hid hN
        have SA := Lib.hid hA
        have SB := Lib.hid hB
        clear hN hA hB
        by_cases hlk : k < L
        · have j1 : IntKind.i64.wrap ((k : Int) + 1) = ((k + 1 : Nat) : Int) := by rw [show (k : Int) + 1 = ((k + 1 : Nat) : Int) by omega]; exact i64_nat _ (by have := HN.out; omega)
          obtain ⟨f1, f2⟩ := SA.out.next hlk 1
          obtain ⟨s', hs'⟩ : ∃ s', s.put (k : Int) (one1 1) = s' := ⟨_, rfl⟩
          rw [hs'] at f1
          have F1 := Lib.hid f1
          have F2 := Lib.hid f2
          have F4 : Hid (s.put (k : Int) [1, 0, 0, 0, 0, 0, 0, 0] = s') := Lib.hid hs'
          have C0 : Hid (s.c < 4611686018427387904) := Lib.hid (by
            have := SA.out.calm.cc; have := HN.out
            have : r * L ≤ 20 * 50 := Nat.mul_le_mul (by omega) (by omega)
            omega)
          clear f1 f2 hs'
          go_wp2_with fail
          refine (put_is F2.out F4.out rfl SN.out SA.out.calm.ok C0.out).mono ?_; rintro e w2 ⟨rfl, hN, hO, hC⟩
          have N2 := Lib.hid hN
          have B2 := Lib.hid (hC.own SB.out hg'.out)
          clear hN hO hC F2 F4 C0
          go_wp2
          exact ⟨⟨k + 1, by omega, by go_num, Lib.hid ⟨s', N2.out, F1.out, B2.out⟩⟩, by simp [intOf]; omega⟩
        · obtain rfl : k = L := by omega
          have HR := Lib.hid SA.out.round
          go_wp2
          exact ⟨⟨r + 1, by omega, by go_num, Lib.hid ⟨s, SN.out, HR.out, SB.out⟩⟩, by simp [intOf]; omega⟩
    · obtain rfl : r = n := by omega
      obtain ⟨s, hN, hA, hB⟩ := H.out
      have SN := Lib.hid hN
      have SA := Lib.hid hA
      have SB := Lib.hid hB
      have M0 := Lib.hid (Mm.own hg'.out hN hA.calm.ok)
      clear hN hA hB H
      cases r with
      | zero =>
        have U := Lib.hid SA.out.none
        go_wp2_with fail
        refine (guneven_is M0.out 0 (L : Int) rfl (i64_of (by omega) (by have := HN.out; omega))).mono ?_; rintro e w2 ⟨rfl, hb⟩
        rw [U.out]
        have B2 := Lib.hid (below_more SB.out hb)
        clear hb
        go_wp2_with fail
        refine (awake_any _).mono ?_; rintro e w3 ⟨rfl, hb⟩
        go_wp2_with fail
        go_ret
        exact ⟨rfl, below_more B2.out hb⟩
      | succ r =>
        have U := Lib.hid (SA.out.one HN.out.1 HN.out.2.1 (by have := HN.out; omega))
        have F := SA.out.next (k := 0) (by have := HN.out; omega) 2
        obtain ⟨s', hs'⟩ : ∃ s', s.put ((0 : Nat) : Int) (one1 2) = s' := ⟨_, rfl⟩
        rw [hs'] at F
        obtain ⟨f1, f2⟩ := F
        have F2 : Hid (s.putE 0 = 0) := Lib.hid f2
        have F4 : Hid (s.put 0 [2, 0, 0, 0, 0, 0, 0, 0] = s') := Lib.hid hs'
        have C0 : Hid (s.c < 4611686018427387904) := Lib.hid (by
          have := SA.out.calm.cc; have := HN.out
          have : (r + 1) * L ≤ 20 * 50 := Nat.mul_le_mul (by omega) (by omega)
          omega)
        obtain ⟨v, hv, v1, v2⟩ := f1.more HN.out.1 HN.out.2.1 (by have := HN.out; omega)
        have V := Lib.hid hv
        have n0 : (((r + 1 : Nat) : Int) == 0) = false := beq_eq_false_iff_ne.2 (by omega)
        have n1 : ¬ ((r : Int) + 1 = 0) := by omega
        clear f1 f2 hs' hv
        have O1 := Lib.hid SA.out.calm.ok
        go_wp2_with fail
        refine (guneven_is M0.out 0 (L : Int) rfl (i64_of (by omega) (by have := HN.out; omega))).mono ?_; rintro e w2 ⟨rfl, hb⟩
        rw [U.out]
        have B2 := Lib.hid (below_more SB.out hb)
        have N2 := Lib.hid (SN.out.below hb)
        clear hb SA SB SN M0 U
        go_wp2_with fail
        refine (put_is F2.out F4.out rfl N2.out O1.out C0.out).mono ?_; rintro e w3 ⟨rfl, hN, hO, hC⟩
        have M3 := Lib.hid (Mm.own hg'.out hN hO)
        have B3 := Lib.hid (hC.own B2.out hg'.out)
        clear hN hO hC F2 F4 C0 N2 B2
        go_wp2_with fail
        refine (guneven_is M3.out 0 (L : Int) rfl (i64_of (by omega) (by have := HN.out; omega))).mono ?_; rintro e w4 ⟨rfl, hb⟩
        rw [V.out]
        have B4 := Lib.hid (below_more B3.out hb)
        clear hb M3 B3 V
        by_cases hL1 : L = 1
        · obtain rfl := v1 hL1
          subst hL1
          clear v1 v2
          go_wp2_with fail
          refine (awake_any _).mono ?_; rintro e w5 ⟨rfl, hb⟩
          go_wp2_with fail
          go_ret
          exact ⟨rfl, below_more B4.out hb⟩
        · obtain ⟨hv1, hv2⟩ := v2 hL1
          have D := Lib.hid (cmp_is' v 4607182418800017408 hv1 (by decide) 1 hv2)
          have l0 : ((L : Int) == 1) = false := beq_eq_false_iff_ne.2 (by omega)
          have l1 : (1 : Int) < (L : Int) := by have := HN.out; omega
          have l2 : 1 < L := by have := HN.out; omega
          clear v1 v2 hv1 hv2
          go_wp2_with fail
          refine (D.out _).mono ?_; rintro e w' ⟨rfl, rfl⟩
          go_wp2_with fail
          refine (awake_any _).mono ?_; rintro e w5 ⟨rfl, hb⟩
          go_wp2_with fail
          go_ret
          exact ⟨rfl, below_more B4.out hb⟩

set_option maxRecDepth 100000 in
theorem lifted (os : Os) (started : os.Started) (H : Type) (enc : TypeId × Value → H) :
    ReturnsInHanded {} Try.checked os 5 .any (Rows.gaugeEvenSpec.pre6 enc Try.prog Try.f5 Rows.gaugeEvenRow.domain false) (Rows.gaugeEvenSpec.post enc Try.prog Try.f5 false true false false) := by
  refine returnsInHanded_of_change (C := Try.checked) own started (by kernel_rfl) Try.func5
    (ChangeSpec.witness6 (enc := enc) (C := Try.checked) false ⟨#[], #[.int .i64 0, .int .i64 0], []⟩ 8 (by kernel_rfl) (by kernel_rfl) (by kernel_rfl) (by kernel_rfl)) ?_
  intro W base args ds gs before hval0 hW hcnd _
  have hval : ∀ (j : Nat) t v, Try.f5.params[j]? = some t → args[j]? = some v → Value.okWide Try.prog W .any base t v := hval0
  have hW' := hW
  have hlt := hW.lt
  obtain ⟨p, q, hA0, hV, hpq, hfz, hnd⟩ := hW
  have hA : DataW.TrodAll enc Try.prog W 0 (fun _ => true) true Try.f5.params.toList args.toList ds p := hA0
  rw [Try.params5] at hA hval
  obtain ⟨v0, vs0, d0, ds0, p0, q0, hargs, rfl, hp, h0, r0⟩ := trodAll_cons hA
  obtain ⟨v1, vs1, d1, ds1, p1, q1, rfl, rfl, rfl, h1, r1⟩ := trodAll_cons r0
  obtain ⟨rfl, rfl, rfl⟩ := trodAll_nil r1
  obtain rfl : args = #[v0, v1] := by cases args; simp_all
  obtain ⟨rfl, rfl⟩ := trodVars_none hV
  have hlt' : ∀ x ∈ before, x.block < W.heap.size := fun x hx => hlt x hx
  obtain ⟨a0, rfl, rfl, rfl, w0⟩ := open_int Try.underlying3 (hval 0 3 v0 rfl rfl) h0
  obtain ⟨a1, rfl, rfl, rfl, w1⟩ := open_int Try.underlying3 (hval 1 3 v1 rfl rfl) h1
  refine (walk a0 a1 W w0 w1).mono fun e W' ⟨he, hb⟩ => ?_
  subst he
  exact ⟨_, rfl, law_post rfl (by kernel_rfl) hW' (by rw [Try.params5]; intro t ht; simp only [List.mem_cons, List.not_mem_nil, or_false] at ht; (repeat' (first | (rcases ht with rfl | ht) | subst ht)) <;> exact ⟨by kernel_rfl, of_decide_eq_true (by kernel_rfl)⟩) rfl hb⟩

theorem over : Rows.gaugeEvenRow.holds Try.pinned (OpenSpec.ofChange Rows.gaugeEvenSpec) :=
  OpenClaim.holds_of_wide 5 Try.f5 rfl rfl rfl rfl rfl rfl rfl ⟨rfl, rfl, rfl, rfl, rfl⟩ rfl rfl rfl rfl rfl (by kernel_rfl) Try.func5 (by kernel_rfl)
    (of_decide_eq_true (by kernel_rfl)) (by unfold Func.isWrapper; first | (rw [if_pos (by decide +kernel)]; kernel_rfl) | (rw [if_neg (by decide +kernel)]; exact ⟨rfl, rfl⟩))
    (fun os started H enc _ => lifted os started H enc)

theorem proved : Rows.GaugeEvenSaid := over
end Go.Proofs.Ythcecfenjbdgmaa.gaugeEven
