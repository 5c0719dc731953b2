/-
  However one line alone is written, its writes go round over the slots: none has more than its round's, and the moves. No conditions.
-/
import Derived.Test.YtjchmkgkibiadaaTnw
import Derived.Test.YtjchmkgkibiadaaTwl
namespace Go.Proofs.Ytjchmkgkibiadaa.turnWears
open Go.Proofs.Ytjchmkgkibiadaa Go.ChangeShapes Go.WideShapes Go.ChangeAt Go.RowKit

/-- the lines, behind i Puts -/
structure Kw (w : World) (x q g n per : Nat) (wr : World) (i : Nat) (s : Nv) : Prop where
  nm : Nm wr g s
  lq : Lq wr q g (n + 1) 0
  tq : Tq wr x g q n per (i % per)
  tok : TOk s n 0 (i / per)
  free : Free s
  wr_ : ∀ k, s.wr k = (wn n per i k : Nat)
  bel : Below w.heap.size w wr
  c : s.c ≤ 81 * i

theorem Kw.step {w : World} {x q g n per : Nat} {wr : World} {i : Nat} {s : Nv} {d : List Int} (h : Kw w x q g n per wr i s) (hp : 0 < per) (hn : 0 < n) (hd : d.length = 8) (hi : i < 1000) :
    ∃ s', tput n 0 per (i % per) (i / per) 0 d s = (0, s') ∧ TOk s' n 0 ((i + 1) / per) ∧ Free s' ∧ (∀ k, s'.wr k = (wn n per (i + 1) k : Nat)) ∧ s'.c ≤ 81 * (i + 1 : Nat) := by
  have hle : i / per ≤ i := Nat.div_le_self ..
  obtain ⟨s', a1, a2, a3, _, a5, a6⟩ := tput_free (per := per) (p := i % per) (a := 0) (d := d) h.tok h.free hn hn hd (by omega)
  rw [td_next hp] at a2
  refine ⟨s', a1, a2, a3, fun k => ?_, ?_⟩
  · rw [a6, h.wr_, wn]; push_cast; rfl
  · have := h.c; push_cast; omega

set_option maxRecDepth 100000 in
set_option maxHeartbeats 4000000 in
theorem walk (a0 a1 a2 : Int) (w : World) (_ : (Lit.int .i64 a0).wf = true) (_ : (Lit.int .i64 a1).wf = true) (_ : (Lit.int .i64 a2).wf = true) :
    Calls Try.prog 5 #[.int .i64 a0, .int .i64 a1, .int .i64 a2] w fun e w' => e = .returned (.bool true) ∧ Below w.heap.size w w' := by
  obtain ⟨u0, hu0, _⟩ := u64_nat a0
  obtain ⟨m, hm⟩ : ∃ m, m = u0 % 10 := ⟨_, rfl⟩
  have t0 : (u0 : Int).tmod 10 = (m : Int) := by rw [hm]; exact tmod_nat u0 10
  obtain ⟨n, hn⟩ : ∃ n : Nat, n = m + 1 := ⟨_, rfl⟩
  have k0 : IntKind.i64.wrap (m : Int) = m := i64_nat _ (by omega)
  have k1 : IntKind.i64.wrap (1 + (m : Int)) = (n : Int) := by rw [show 1 + (m : Int) = (n : Int) by omega]; exact i64_nat _ (by omega)
  obtain ⟨u1, hu1, _⟩ := u64_nat a1
  obtain ⟨m1, hm1⟩ : ∃ m1, m1 = u1 % 6 := ⟨_, rfl⟩
  have t1 : (u1 : Int).tmod 6 = (m1 : Int) := by rw [hm1]; exact tmod_nat u1 6
  obtain ⟨per, hper⟩ : ∃ per : Nat, per = m1 + 1 := ⟨_, rfl⟩
  have k2 : IntKind.i64.wrap (m1 : Int) = m1 := i64_nat _ (by omega)
  have k3 : IntKind.i64.wrap (1 + (m1 : Int)) = (per : Int) := by rw [show 1 + (m1 : Int) = (per : Int) by omega]; exact i64_nat _ (by omega)
  obtain ⟨u2, hu2, _⟩ := u64_nat a2
  obtain ⟨Q, hQ⟩ : ∃ Q, Q = u2 % 1000 := ⟨_, rfl⟩
  have t2 : (u2 : Int).tmod 1000 = (Q : Int) := by rw [hQ]; exact tmod_nat u2 1000
  have k4 : IntKind.i64.wrap (Q : Int) = Q := i64_nat _ (by omega)
  obtain ⟨n1, hn1⟩ : ∃ n1 : Nat, n1 = n + 1 := ⟨_, rfl⟩
  have k5 : IntKind.i64.wrap ((n : Int) + 1) = (n1 : Int) := by rw [show (n : Int) + 1 = (n1 : Int) by omega]; exact i64_nat _ (by omega)
  have HB : Hid (1 ≤ n ∧ n ≤ 10 ∧ 1 ≤ per ∧ per ≤ 6 ∧ Q < 1000 ∧ n1 = n + 1) := Lib.hid ⟨by omega, by omega, by omega, by omega, by omega, hn1⟩
  -- the arithmetic of the bound
  obtain ⟨pn, hpn⟩ : ∃ pn, pn = per * n := ⟨_, rfl⟩
  have bpn : pn ≤ 6 * 10 := by rw [hpn]; exact Nat.mul_le_mul (by omega) (by omega)
  have k6 : IntKind.i64.wrap ((per : Int) * (n : Int)) = (pn : Int) := by rw [show (per : Int) * (n : Int) = (pn : Int) by rw [hpn]; push_cast; rfl]; exact i64_nat _ (by omega)
  obtain ⟨D, hD⟩ : ∃ D, D = pn * n1 := ⟨_, rfl⟩
  have bD : D ≤ 60 * 11 := by rw [hD]; exact Nat.mul_le_mul (by omega) (by omega)
  have bD0 : 0 < D := by rw [hD, hpn]; exact Nat.mul_pos (Nat.mul_pos (by omega) (by omega)) (by omega)
  have k7 : IntKind.i64.wrap ((pn : Int) * (n1 : Int)) = (D : Int) := by rw [show (pn : Int) * (n1 : Int) = (D : Int) by rw [hD]; push_cast; rfl]; exact i64_nat _ (by omega)
  obtain ⟨qq, hqq⟩ : ∃ qq, qq = Q / D := ⟨_, rfl⟩
  have bqq : qq ≤ Q := by rw [hqq]; exact Nat.div_le_self ..
  have t3 : (Q : Int).tdiv (D : Int) = (qq : Int) := by rw [hqq]; exact tdiv_nat Q D
  have k8 : IntKind.i64.wrap (qq : Int) = (qq : Int) := i64_nat _ (by omega)
  obtain ⟨r, hr⟩ : ∃ r, r = qq + 1 := ⟨_, rfl⟩
  have k9 : IntKind.i64.wrap ((qq : Int) + 1) = (r : Int) := by rw [show (qq : Int) + 1 = (r : Int) by omega]; exact i64_nat _ (by omega)
  obtain ⟨r2, hr2⟩ : ∃ r2, r2 = 2 * r := ⟨_, rfl⟩
  have kA : IntKind.i64.wrap (2 * (r : Int)) = (r2 : Int) := by rw [show 2 * (r : Int) = (r2 : Int) by omega]; exact i64_nat _ (by omega)
  obtain ⟨x1, hx1⟩ : ∃ x1, x1 = r2 * n1 := ⟨_, rfl⟩
  have bx1 : x1 ≤ 3000 * 11 := by rw [hx1]; exact Nat.mul_le_mul (by omega) (by omega)
  have kB : IntKind.i64.wrap ((r2 : Int) * (n1 : Int)) = (x1 : Int) := by rw [show (r2 : Int) * (n1 : Int) = (x1 : Int) by rw [hx1]; push_cast; rfl]; exact i64_nat _ (by omega)
  obtain ⟨x2, hx2⟩ : ∃ x2, x2 = x1 * per := ⟨_, rfl⟩
  have bx2 : x2 ≤ 33000 * 6 := by rw [hx2]; exact Nat.mul_le_mul (by omega) (by omega)
  have kC : IntKind.i64.wrap ((x1 : Int) * (per : Int)) = (x2 : Int) := by rw [show (x1 : Int) * (per : Int) = (x2 : Int) by rw [hx2]; push_cast; rfl]; exact i64_nat _ (by omega)
  obtain ⟨x3, hx3⟩ : ∃ x3, x3 = r2 * n := ⟨_, rfl⟩
  have bx3 : x3 ≤ 3000 * 10 := by rw [hx3]; exact Nat.mul_le_mul (by omega) (by omega)
  have kD : IntKind.i64.wrap ((r2 : Int) * (n : Int)) = (x3 : Int) := by rw [show (r2 : Int) * (n : Int) = (x3 : Int) by rw [hx3]; push_cast; rfl]; exact i64_nat _ (by omega)
  obtain ⟨X, hX⟩ : ∃ X, X = x2 + x3 := ⟨_, rfl⟩
  have kE : IntKind.i64.wrap ((x2 : Int) + (x3 : Int)) = (X : Int) := by rw [show (x2 : Int) + (x3 : Int) = (X : Int) by omega]; exact i64_nat _ (by omega)
  have WL : Hid (∀ k, k ≤ n → wn n per Q k ≤ X) := Lib.hid fun k hk => by
    have := wn_le (n := n) (per := per) (k := k) (Q := Q) (by omega) (by omega) hk
    rw [hX, hx2, hx3, hx1, hr2, hr, hqq, hD, hpn, hn1]; exact this
  obtain ⟨MM, hMM⟩ : ∃ MM, MM = Q / per := ⟨_, rfl⟩
  have bMM : MM ≤ Q := by rw [hMM]; exact Nat.div_le_self ..
  have WS : Hid (sm (wn n per Q) n1 = Q + MM) := Lib.hid (by rw [hn1, hMM]; exact wn_sum (by omega) (by omega) Q)
  have t4 : (Q : Int).tdiv (per : Int) = (MM : Int) := by rw [hMM]; exact tdiv_nat Q per
  have kF : IntKind.i64.wrap (MM : Int) = (MM : Int) := i64_nat _ (by omega)
  have kG : IntKind.i64.wrap ((Q : Int) + (MM : Int)) = ((Q + MM : Nat) : Int) := by rw [show (Q : Int) + (MM : Int) = ((Q + MM : Nat) : Int) by omega]; exact i64_nat _ (by omega)
  have z1 : ¬ D = 0 := by omega
  have z2 : ¬ (D : Int) = 0 := by omega
  have z3 : ¬ per = 0 := by omega
  have z4 : ¬ (per : Int) = 0 := by omega
  have HMM := Lib.hid hMM
  have HMB : Hid (MM ≤ Q) := Lib.hid bMM
  have LK := newNv_tok (n := n) (P := 0) (by omega) (by decide) (by omega) []
  have e1 : n + 1 + 0 = n1 := by omega
  rw [e1] at LK
  have HT := Lib.hid LK
  have KWc : Hid (∀ k, (newNv n1 []).wr k = (wn n per 0 k : Nat)) := Lib.hid fun k => rfl
  have KF := Lib.hid (newNv_free n1)
  have Kc : Hid ((newNv n1 []).c ≤ 81 * 0) := Lib.hid (Int.le_refl _)
  clear hm hn hm1 hper hQ hn1 hpn bpn hD bD bD0 hqq bqq hr hr2 hx1 bx1 hx2 bx2 hx3 bx3 hX hMM bMM LK e1
  obtain ⟨s0, e0⟩ : ∃ s0, newNv n1 [] = s0 := ⟨_, rfl⟩
  rw [e0] at HT KWc KF Kc
  go_enter Try.func5, Try.ntmps5
  go_wp2_with fail
  refine (new_yes n1 _ [] w (by have := HB.out; omega) (by have := HB.out; omega) (ri_nil _)).mono ?_; rintro e w1 ⟨g, rfl, hg, hN, hb⟩
  rw [e0] at hN
  have N1 := Lib.hid hN
  have G1 := Lib.hid hg
  have B1 := Lib.hid hb
  clear hN hg hb
  go_wp2_with fail
  refine (tnew_yes (per := per) HT.out (by have := HB.out; omega) (by have := HB.out; omega) (by have := HB.out; omega) (by have := HB.out; omega) (by decide) N1.out).mono ?_; rintro e w2 ⟨x, q, rfl, hx, hq, hxq, hQ, hT, hb⟩
  have KK : Hid (q ≠ g ∧ x ≠ g ∧ x ≠ q ∧ w.heap.size ≤ x ∧ w.heap.size ≤ g) := Lib.hid ⟨by have := N1.out.lt; omega, by have := N1.out.lt; omega, hxq, Nat.le_trans B1.out.size hx, G1.out⟩
  have KP : Hid (Kw w x q g n per w2 0 s0) := Lib.hid ⟨N1.out.below hb, hQ, by rw [Nat.zero_mod]; exact hT, by rw [Nat.zero_div]; exact HT.out, KF.out, KWc.out, below_more B1.out hb, Kc.out⟩
  clear hx hq hxq hQ hT hb t0 t1 t2 k0 k1 k2 k3 k4
  go_wp2
  go_loopw [38] (fun i wr => ∃ k : Nat, k ≤ Q ∧ i = .int .i64 k ∧ Hid (∃ s, Kw w x q g n per wr k s)) (fun i _ => Q - (intOf i).toNat)
  case atStart => exact ⟨0, Nat.zero_le _, rfl, Lib.hid ⟨_, KP.out⟩⟩
  case round =>
    obtain ⟨k, hk, rfl, H⟩ := hrel
    obtain ⟨s, hs⟩ := H.out
    have HK := Lib.hid hs
    clear hs H KP
    by_cases hlt : k < Q
    · obtain ⟨s', r1, r2, r3, r4, r5⟩ := HK.out.step (d := [(k : Int), 0, 0, 0, 0, 0, 0, 0]) (by have := HB.out; omega) (by have := HB.out; omega) rfl (by have := HB.out; omega)
      have TC := tput_is r1 HK.out.tok (by have := HB.out; omega) (by have := HB.out; omega) rfl (by have := HB.out; have := Nat.div_le_self k per; omega) (by have := Nat.mod_lt k (show per > 0 by have := HB.out; omega); have := HB.out; omega)
        KK.out.1 KK.out.2.1 KK.out.2.2.1 (by have := HK.out.c; have := HB.out; omega) HK.out.tq HK.out.lq HK.out.nm
      rw [show ((0 : Nat) : Int) = 0 from rfl] at TC
      have TC := Lib.hid TC
      have R2 := Lib.hid r2; have R3 := Lib.hid r3; have R4 := Lib.hid r4; have R5 := Lib.hid r5
      have j0 : IntKind.u64.wrap (k : Int) = (k : Int) := u64_same (by omega) (by have := HB.out; omega)
      have hk1000 : k < 1000 := by have := HB.out; omega
      clear r1 r2 r3 r4 r5
      go_wp2_with fail
      refine (TC.out).mono ?_; rintro e w3 ⟨rfl, hN, hT, hQ, hC⟩
      have KS : Hid (Kw w x q g n per w3 (k + 1) s') := Lib.hid ⟨hN, hQ, by rw [tp_next (by have := HB.out; omega)] at hT; exact hT, R2.out, R3.out, R4.out, hC.below HK.out.bel HK.out.bel.size (fun k hk => by rcases List.mem_cons.1 hk with rfl | hk; exact KK.out.2.2.2.2; rw [List.mem_singleton.1 hk]; exact KK.out.2.2.2.1), R5.out⟩
      clear hN hT hQ hC
      go_wp2
      exact ⟨⟨k + 1, by omega, by go_num, Lib.hid ⟨_, KS.out⟩⟩, by simp [intOf]; omega⟩
    · obtain rfl : k = Q := by omega
      have WW : Hid (∀ j, j ≤ n → s.wear (j : Int) = (wn n per k j : Nat)) := Lib.hid fun j hj => by
        have := HK.out.tok.l.n
        rw [Nv.wear, Nv.has_of (by omega), if_pos rfl]; exact HK.out.wr_ j
      have SB : Hid (∀ j, j ≤ n1 → sm (wn n per k) j ≤ k + MM) := Lib.hid fun j hj => Nat.le_trans (sm_le _ hj) (Nat.le_of_eq WS.out)
      go_wp2
      go_loop [10, 50] (fun v i => ∃ j : Nat, j ≤ n1 ∧ i = .int .i64 j ∧ v = .int .i64 (sm (wn n per k) j : Nat)) (fun _ i => n1 - (intOf i).toNat)
      case atStart => exact ⟨0, Nat.zero_le _, rfl, rfl⟩
      case round =>
        obtain ⟨j, hj, rfl, rfl⟩ := hrel
        by_cases hjl : j < n1
        · obtain ⟨y, hy⟩ : ∃ y, wn n per k j = y := ⟨_, rfl⟩
          obtain ⟨z, hz⟩ : ∃ z, sm (wn n per k) j = z := ⟨_, rfl⟩
          have hz1 : sm (wn n per k) (j + 1) = z + y := by rw [sm, hz, hy]
          have hzb : z + y ≤ k + MM := by rw [← hz1]; exact SB.out _ (by omega)
          have hyX : y ≤ X := by rw [← hy]; exact WL.out j (by have := HB.out; omega)
          have hwe := WW.out j (by have := HB.out; omega)
          rw [hy] at hwe
          have WC := Lib.hid (wear_is hwe HK.out.nm HK.out.tok.l.ok)
          have j1 : IntKind.i64.wrap ((z : Int) + (y : Int)) = ((z + y : Nat) : Int) := by rw [show (z : Int) + (y : Int) = ((z + y : Nat) : Int) by omega]; exact i64_nat _ (by have := HB.out; have := HMB.out; omega)
          have i1 : ¬ (y : Int) > (X : Int) := by omega
          have hj11 : j < 11 := by have := HB.out; omega
          have HZ := Lib.hid hz1
          rw [hz]
          clear hy hz hz1 hzb hyX hwe
          go_wp2_with fail
          refine (WC.out).mono ?_; rintro e w' ⟨rfl, rfl⟩
          go_wp2
          exact ⟨⟨j + 1, by omega, by go_num, by rw [HZ.out]; rfl⟩, by simp [intOf]; omega⟩
        · obtain rfl : j = n1 := by omega
          have MC := Lib.hid (fun (w' : World) (hb : Below wr.heap.size wr w') => tmv_is (M := MM) (by rw [HMM.out]; exact HK.out.tok) (HK.out.tq.below hb) (HK.out.nm.below hb))
          have hw0 : Below wr.heap.size wr wr := Below.refl _ _
          rw [WS.out]
          go_wp2
          go_region_held3 (fun w' => Below wr.heap.size wr w')
            (first | assumption | exact (Below.refl _ _).drew | exact below_more ‹Below wr.heap.size wr _› hbq)
            (first
              | (go_at_call 15; refine (MC.out _ (by assumption)).mono ?_; rintro e wq ⟨rfl, rfl⟩)
              | (go_at_call 9; refine (awake_any _).mono ?_; rintro e wq ⟨rfl, hbq⟩))
          have BF := Lib.hid (below_more HK.out.bel ‹Below wr.heap.size wr wq›)
          go_wp2
          go_ret
          exact ⟨rfl, BF.out⟩

set_option maxRecDepth 100000 in
theorem lifted (os : Os) (started : os.Started) (H : Type) (enc : TypeId × Value → H) :
    ReturnsInHanded {} Try.checked os 5 .any (Rows.turnWearsSpec.pre6 enc Try.prog Try.f5 Rows.turnWearsRow.domain false) (Rows.turnWearsSpec.post enc Try.prog Try.f5 false true false false) := by
  refine returnsInHanded_of_change (C := Try.checked) own started (by kernel_rfl) Try.func5
    (ChangeSpec.witness6 (enc := enc) (C := Try.checked) false ⟨#[], #[.int .i64 0, .int .i64 0, .int .i64 0], []⟩ 8 (by kernel_rfl) (by kernel_rfl) (by kernel_rfl) (by kernel_rfl)) ?_
  intro W base args ds gs before hval0 hW hcnd _
  have hval : ∀ (j : Nat) t v, Try.f5.params[j]? = some t → args[j]? = some v → Value.okWide Try.prog W .any base t v := hval0
  have hW' := hW
  have hlt := hW.lt
  obtain ⟨p, q, hA0, hV, hpq, hfz, hnd⟩ := hW
  have hA : DataW.TrodAll enc Try.prog W 0 (fun _ => true) true Try.f5.params.toList args.toList ds p := hA0
  rw [Try.params5] at hA hval
  obtain ⟨v0, vs0, d0, ds0, p0, q0, hargs, rfl, hp, h0, r0⟩ := trodAll_cons hA
  obtain ⟨v1, vs1, d1, ds1, p1, q1, rfl, rfl, rfl, h1, r1⟩ := trodAll_cons r0
  obtain ⟨v2, vs2, d2, ds2, p2, q2, rfl, rfl, rfl, h2, r2⟩ := trodAll_cons r1
  obtain ⟨rfl, rfl, rfl⟩ := trodAll_nil r2
  obtain rfl : args = #[v0, v1, v2] := by cases args; simp_all
  obtain ⟨rfl, rfl⟩ := trodVars_none hV
  have hlt' : ∀ x ∈ before, x.block < W.heap.size := fun x hx => hlt x hx
  obtain ⟨a0, rfl, rfl, rfl, w0⟩ := open_int Try.underlying3 (hval 0 3 v0 rfl rfl) h0
  obtain ⟨a1, rfl, rfl, rfl, w1⟩ := open_int Try.underlying3 (hval 1 3 v1 rfl rfl) h1
  obtain ⟨a2, rfl, rfl, rfl, w2⟩ := open_int Try.underlying3 (hval 2 3 v2 rfl rfl) h2
  refine (walk a0 a1 a2 W w0 w1 w2).mono fun e W' ⟨he, hb⟩ => ?_
  subst he
  exact ⟨_, rfl, law_post rfl (by kernel_rfl) hW' (by rw [Try.params5]; intro t ht; simp only [List.mem_cons, List.not_mem_nil, or_false] at ht; (repeat' (first | (rcases ht with rfl | ht) | subst ht)) <;> exact ⟨by kernel_rfl, of_decide_eq_true (by kernel_rfl)⟩) rfl hb⟩

theorem over : Rows.turnWearsRow.holds Try.pinned (OpenSpec.ofChange Rows.turnWearsSpec) :=
  OpenClaim.holds_of_wide 5 Try.f5 rfl rfl rfl rfl rfl rfl rfl ⟨rfl, rfl, rfl, rfl, rfl⟩ rfl rfl rfl rfl rfl (by kernel_rfl) Try.func5 (by kernel_rfl)
    (of_decide_eq_true (by kernel_rfl)) (by unfold Func.isWrapper; first | (rw [if_pos (by decide +kernel)]; kernel_rfl) | (rw [if_neg (by decide +kernel)]; exact ⟨rfl, rfl⟩))
    (fun os started H enc _ => lifted os started H enc)

theorem proved : Rows.TurnWearsSaid := over
end Go.Proofs.Ytjchmkgkibiadaa.turnWears
