/-
  Found anew, all lines that go round are where they were, and the gap moves on from there. No conditions.
-/
import Derived.Test.YtjchmkgkibiadaaTnw
import Derived.Test.YtjchmkgkibiadaaTwl
import Derived.Test.YtjchmkgkibiadaaWt
import Derived.Test.YtjchmkgkibiadaaIsz
namespace Go.Proofs.Ytjchmkgkibiadaa.turnFound
open Go.Proofs.Ytjchmkgkibiadaa Go.ChangeShapes Go.WideShapes Go.ChangeAt Go.RowKit

/-- the memory and what its lines must hold; K bounds the Puts so far -/
structure Kr (w : World) (g gw n : Nat) (wr : World) (M K : Nat) (s : Nv) : Prop where
  nm : Nm wr g s
  tok : TOk s n 0 M
  free : Free s
  wt : Wt wr gw n (thold s n 0 M)
  bel : Below w.heap.size w wr
  c : s.c ≤ 81 * K
  m : M ≤ K
theorem Kr.below {w : World} {g gw n : Nat} {wr wr' : World} {M K : Nat} {s : Nv} (h : Kr w g gw n wr M K s) (hb : Below wr.heap.size wr wr') : Kr w g gw n wr' M K s :=
  ⟨h.nm.below hb, h.tok, h.free, h.wt.below hb, below_base h.bel h.bel.size hb, h.c, h.m⟩

/-- within a round: k Puts on the lines that block x holds -/
structure Kq (w : World) (x q g gw n per : Nat) (wr : World) (M K k : Nat) (s : Nv) : Prop where
  nm : Nm wr g s
  lq : Lq wr q g (n + 1) 0
  tq : Tq wr x g q n per (k % per)
  tok : TOk s n 0 (M + k / per)
  free : Free s
  wt : Wt wr gw n (thold s n 0 (M + k / per))
  bel : Below w.heap.size w wr
  c : s.c ≤ 81 * (K + k : Nat)
theorem Kq.below {w : World} {x q g gw n per : Nat} {wr wr' : World} {M K k : Nat} {s : Nv} (h : Kq w x q g gw n per wr M K k s) (hb : Below wr.heap.size wr wr') : Kq w x q g gw n per wr' M K k s :=
  ⟨h.nm.below hb, h.lq.below hb, h.tq.below hb, h.tok, h.free, h.wt.below hb, below_base h.bel h.bel.size hb, h.c⟩
theorem Kq.step {w : World} {x q g gw n per : Nat} {wr : World} {M K k a : Nat} {s : Nv} {d : List Int} (h : Kq w x q g gw n per wr M K k s) (hp : 0 < per) (hn : 0 < n) (ha : a < n) (hd : d.length = 8) (hm : M + k + 1 < 4611686018427387904) :
    ∃ s', tput n 0 per (k % per) (M + k / per) a d s = (0, s') ∧ TOk s' n 0 (M + (k + 1) / per) ∧ Free s' ∧ (∀ b, b < n → thold s' n 0 (M + (k + 1) / per) b = upd (thold s n 0 (M + k / per)) a d b) ∧ s'.c ≤ 81 * (K + (k + 1) : Nat) := by
  have hle : k / per ≤ k := Nat.div_le_self ..
  obtain ⟨s', a1, a2, a3, a4, a5, _⟩ := tput_free (per := per) (p := k % per) (a := a) (d := d) h.tok h.free hn ha hd (by omega)
  rw [Nat.add_assoc, td_next hp] at a2 a4
  refine ⟨s', a1, a2, a3, fun b hb => ?_, ?_⟩
  · rw [a4 b hb]; rfl
  · have := h.c; push_cast at this ⊢; omega
theorem Kq.done {w : World} {x q g gw n per : Nat} {wr : World} {M K k : Nat} {s : Nv} (h : Kq w x q g gw n per wr M K k s) (hm : M ≤ K) : Kr w g gw n wr (M + k / per) (K + k) s :=
  ⟨h.nm, h.tok, h.free, h.wt, h.bel, h.c, by have := Nat.div_le_self k per; omega⟩
/-- how many Puts came ahead of round j -/
def Kof (n1 n2 j : Nat) : Nat := if j = 0 then 0 else if j = 1 then n1 else n1 + n2
theorem sel {w : World} {n1 n2 cap1 cap2 : Nat} {p1 p2 : Option Addr} {l1 l2 : List Int} (h1 : RI w (.slice p1 n1 cap1) l1) (h2 : RI w (.slice p2 n2 cap2) l2) (e1 : l1.length = n1) (e2 : l2.length = n2) (j : Nat) (hj : j < 2) :
    ∃ (lp : Option Addr) (ln lc : Nat) (l : List Int), RI w (.slice lp ln lc) l ∧ l.length = ln ∧ (∀ w', (Instr.index 47 (.agg #[.slice p1 n1 cap1, .slice p2 n2 cap2]) (.int .i64 (j : Int))).run Try.prog w' = .ok (.slice lp ln lc) w') ∧
      Kof n1 n2 (j + 1) = Kof n1 n2 j + ln ∧ Kof n1 n2 (j + 1) ≤ n1 + n2 := by
  rcases (by omega : j = 0 ∨ j = 1) with rfl | rfl
  · refine ⟨p1, n1, cap1, l1, h1, e1, fun w' => ?_, by simp [Kof], ?_⟩
    · simp [Instr.index, run_underlying Try.underlying47, asIntOf, go_sem]
    · show n1 ≤ n1 + n2; omega
  · refine ⟨p2, n2, cap2, l2, h2, e2, fun w' => ?_, rfl, Nat.le_refl _⟩
    simp [Instr.index, run_underlying Try.underlying47, asIntOf, go_sem]

set_option maxRecDepth 100000 in
set_option maxHeartbeats 1000000 in
theorem small (a0 a1 : Int) (l1 l2 : List Int) (v1 v2 : Value) (w : World) (h1 : IntsIn .i64 w v1 l1) (h2 : IntsIn .i64 w v2 l2) (g1 : l1.length ≤ 17592186044416) (g2 : l2.length ≤ 17592186044416) (hb : 200 < l1.length + l2.length) :
    Calls Try.prog 7 #[.int .i64 a0, .int .i64 a1, v1, v2] w fun e w' => e = .returned (.bool true) ∧ Below w.heap.size w w' := by
  obtain ⟨p1, cap1, rfl, c1, d1, _⟩ := h1
  obtain ⟨p2, cap2, rfl, c2, d2, _⟩ := h2
  unfold maxLen at d1 d2
  obtain ⟨n1, hn1⟩ : ∃ n1, l1.length = n1 := ⟨_, rfl⟩
  obtain ⟨n2, hn2⟩ : ∃ n2, l2.length = n2 := ⟨_, rfl⟩
  rw [hn1, hn2] at hb ⊢
  rw [hn1] at c1 g1
  rw [hn2] at c2 g2
  have k1 : IntKind.i64.wrap ((n1 : Int) + (n2 : Int)) = ((n1 + n2 : Nat) : Int) := by rw [show (n1 : Int) + (n2 : Int) = ((n1 + n2 : Nat) : Int) by omega]; exact i64_nat _ (by omega)
  have i1 : (200 : Int) < ((n1 + n2 : Nat) : Int) := by omega
  clear hb hn1 hn2 g1 g2
  go_enter Try.func7, Try.ntmps7
  go_wp2_with fail
  refine (awake_any _).mono ?_; rintro e w' ⟨rfl, hb⟩
  go_wp2_with fail
  go_ret
  exact ⟨rfl, hb⟩

set_option maxRecDepth 100000 in
set_option maxHeartbeats 8000000 in
theorem main (a0 a1 : Int) (l1 l2 : List Int) (v1 v2 : Value) (w : World) (h1 : IntsIn .i64 w v1 l1) (h2 : IntsIn .i64 w v2 l2) (hb : l1.length + l2.length ≤ 200) :
    Calls Try.prog 7 #[.int .i64 a0, .int .i64 a1, v1, v2] w fun e w' => e = .returned (.bool true) ∧ Below w.heap.size w w' := by
  have R1 := Lib.hid (ri_in h1)
  have R2 := Lib.hid (ri_in h2)
  obtain ⟨p1, cap1, rfl, c1, d1, _⟩ := h1
  obtain ⟨p2, cap2, rfl, c2, d2, _⟩ := h2
  unfold maxLen at d1 d2
  obtain ⟨n1, hn1⟩ : ∃ n1, l1.length = n1 := ⟨_, rfl⟩
  obtain ⟨n2, hn2⟩ : ∃ n2, l2.length = n2 := ⟨_, rfl⟩
  rw [hn1, hn2] at hb
  rw [hn1] at c1 R1 ⊢
  rw [hn2] at c2 R2 ⊢
  have E1 := Lib.hid hn1
  have E2 := Lib.hid hn2
  have k1 : IntKind.i64.wrap ((n1 : Int) + (n2 : Int)) = ((n1 + n2 : Nat) : Int) := by rw [show (n1 : Int) + (n2 : Int) = ((n1 + n2 : Nat) : Int) by omega]; exact i64_nat _ (by omega)
  have i1 : ¬ (200 : Int) < ((n1 + n2 : Nat) : Int) := by omega
  obtain ⟨u0, hu0, _⟩ := u64_nat a0
  obtain ⟨m, hm⟩ : ∃ m, m = u0 % 20 := ⟨_, rfl⟩
  have t0 : (u0 : Int).tmod 20 = (m : Int) := by rw [hm]; exact tmod_nat u0 20
  obtain ⟨n, hn⟩ : ∃ n : Nat, n = m + 1 := ⟨_, rfl⟩
  have k0 : IntKind.i64.wrap (m : Int) = m := i64_nat _ (by omega)
  have k2 : IntKind.i64.wrap (1 + (m : Int)) = (n : Int) := by rw [show 1 + (m : Int) = (n : Int) by omega]; exact i64_nat _ (by omega)
  obtain ⟨u1, hu1, _⟩ := u64_nat a1
  obtain ⟨m1, hm1⟩ : ∃ m1, m1 = u1 % 6 := ⟨_, rfl⟩
  have t1 : (u1 : Int).tmod 6 = (m1 : Int) := by rw [hm1]; exact tmod_nat u1 6
  obtain ⟨per, hper⟩ : ∃ per : Nat, per = m1 + 1 := ⟨_, rfl⟩
  have k3 : IntKind.i64.wrap (m1 : Int) = m1 := i64_nat _ (by omega)
  have k4 : IntKind.i64.wrap (1 + (m1 : Int)) = (per : Int) := by rw [show 1 + (m1 : Int) = (per : Int) by omega]; exact i64_nat _ (by omega)
  obtain ⟨N, hN⟩ : ∃ N : Nat, N = n + 1 := ⟨_, rfl⟩
  have k5 : IntKind.i64.wrap ((n : Int) + 1) = (N : Int) := by rw [show (n : Int) + 1 = (N : Int) by omega]; exact i64_nat _ (by omega)
  have HB : Hid (1 ≤ n ∧ n ≤ 20 ∧ 1 ≤ per ∧ per ≤ 6 ∧ N = n + 1 ∧ n1 + n2 ≤ 200) := Lib.hid ⟨by omega, by omega, by omega, by omega, hN, hb⟩
  have z3 : ¬ per = 0 := by omega
  have z4 : ¬ (per : Int) = 0 := by omega
  have z5 : ¬ n = 0 := by omega
  have z6 : ¬ (n : Int) = 0 := by omega
  have k6 : IntKind.u64.wrap (n : Int) = (n : Int) := u64_same (by omega) (by omega)
  have LK := newNv_tok (n := n) (P := 0) (by omega) (by decide) (by omega) []
  have e1 : n + 1 + 0 = N := by omega
  rw [e1] at LK
  have HT := Lib.hid LK
  have KF := Lib.hid (newNv_free N)
  have Kc : Hid ((newNv N []).c ≤ 81 * 0 ∧ ∀ i, zeros = thold (newNv N []) n 0 0 i) := Lib.hid ⟨Int.le_refl _, fun i => rfl⟩
  have hmk := run_make_want n (by omega)
  clear hm hn hm1 hper hN LK e1 hb d1 d2 c1 c2 hn1 hn2
  obtain ⟨s0, e0⟩ : ∃ s0, newNv N [] = s0 := ⟨_, rfl⟩
  rw [e0] at HT KF Kc
  go_enter Try.func7, Try.ntmps7
  go_wp2_with fail
  refine (new_yes N _ [] w (by have := HB.out; omega) (by have := HB.out; omega) (ri_nil _)).mono ?_; rintro e w1 ⟨g, rfl, hg, hN, hb⟩
  rw [e0] at hN
  obtain ⟨gw, hgw⟩ : ∃ gw, w1.heap.size = gw := ⟨_, rfl⟩
  have W3 := Wt.new w1 n
  have KK : Hid (w.heap.size ≤ g ∧ w.heap.size ≤ gw ∧ gw ≠ g) := Lib.hid ⟨hg, by rw [← hgw]; exact hb.size, by have := hN.lt; omega⟩
  have KP : Hid (Kr w g gw n (w1.alloc (.cells (tab (n * 8) (wl fun _ => zeros)) 33)) 0 0 s0) :=
    Lib.hid ⟨hN.alloc _, HT.out, KF.out, by rw [← hgw]; exact W3.as fun i _ => (Kc.out.2 i).symm, bal hb, Kc.out.1, Nat.le_refl _⟩
  have hmk2 := hmk w1
  clear hmk
  rw [hgw] at hmk2
  clear hg hN hb W3 t0 t1 k0 k1 k2 k3 k4 k5 hgw
  go_wp2
  go_loopw [11, 47] (fun mv i wr => ∃ j M K : Nat, j ≤ 2 ∧ i = .int .i64 j ∧ mv = .int .i64 M ∧ Hid ((∃ s, Kr w g gw n wr M K s) ∧ K = Kof n1 n2 j)) (fun _ i _ => 2 - (intOf i).toNat)
  case atStart => exact ⟨0, 0, 0, by omega, rfl, rfl, Lib.hid ⟨⟨_, KP.out⟩, rfl⟩⟩
  case round =>
    obtain ⟨j, M, K, hj, rfl, rfl, H⟩ := hrel
    obtain ⟨⟨s, hs⟩, hK⟩ := H.out
    have HK := Lib.hid hs
    have KE := Lib.hid hK
    clear hs hK H KP hmk2
    by_cases hlt : j < 2
    · obtain ⟨lp, ln, lc_, l, g1, g2, hix, g4, g5⟩ := sel R1.out R2.out E1.out E2.out j hlt
      have RL := Lib.hid g1
      have EL := Lib.hid g2
      have KL : Hid (K + ln ≤ 200 ∧ Kof n1 n2 (j + 1) = K + ln) := Lib.hid ⟨by have := HB.out; have := KE.out; omega, by have := KE.out; omega⟩
      have MK : Hid (M ≤ K) := Lib.hid HK.out.m
      have i4 : (j : Int) < 2 := by omega
      clear g1 g2 g4 g5
      go_wp2_with fail
      refine (tnew_yes (per := per) HK.out.tok (by have := HB.out; omega) (by have := HB.out; omega) (by have := HB.out; omega) (by have := HB.out; omega) (by have := MK.out; have := KL.out; omega) HK.out.nm).mono ?_; rintro e w2 ⟨x, q, rfl, hx, hq, hxq, hQ, hT, hb⟩
      have XX : Hid (q ≠ g ∧ x ≠ g ∧ x ≠ q ∧ w.heap.size ≤ x ∧ gw ≠ x ∧ gw ≠ g ∧ q ≠ gw) := Lib.hid ⟨by have := HK.out.nm.lt; omega, by have := HK.out.nm.lt; omega, hxq, Nat.le_trans HK.out.bel.size hx, by have := HK.out.wt.lt; omega, KK.out.2.2, by have := HK.out.wt.lt; omega⟩
      have Q0 : Hid (Kq w x q g gw n per w2 M K 0 s) := Lib.hid ⟨HK.out.nm.below hb, hQ, by rw [Nat.zero_mod]; exact hT, by rw [Nat.zero_div]; exact HK.out.tok, HK.out.free, by rw [Nat.zero_div]; exact HK.out.wt.below hb, below_base HK.out.bel HK.out.bel.size hb, HK.out.c⟩
      have MV := Lib.hid (tmv_is HK.out.tok hT (HK.out.nm.below hb))
      clear hx hq hxq hQ hT hb
      go_wp2_with fail
      refine (MV.out).mono ?_; rintro e w' ⟨rfl, rfl⟩
      clear hix
      go_wp2
      go_loopw [64] (fun i wr => ∃ k : Nat, k ≤ ln ∧ i = .int .i64 k ∧ Hid (∃ s, Kq w x q g gw n per wr M K k s)) (fun i _ => ln - (intOf i).toNat)
      case atStart => exact ⟨0, Nat.zero_le _, rfl, Lib.hid ⟨_, Q0.out⟩⟩
      case round =>
        obtain ⟨k, hk, rfl, H⟩ := hrel
        obtain ⟨s1, hs1⟩ := H.out
        have HQ := Lib.hid hs1
        clear hs1 H Q0 MV
        by_cases hkl : k < ln
        · have hRr := ri_below RL.out HQ.out.bel
          obtain ⟨b, off, rfl, _, hcell⟩ := ri_some hRr (by rw [EL.out]; omega)
          have c1 := hcell k (by rw [EL.out]; exact hkl)
          generalize l.getD k 0 = y at c1
          obtain ⟨u, hu, _⟩ := u64_nat y
          obtain ⟨a, ha⟩ : ∃ a, a = u % n := ⟨_, rfl⟩
          have t2 : (u : Int).tmod (n : Int) = (a : Int) := by rw [ha]; exact tmod_nat u n
          have han : a < n := by rw [ha]; exact Nat.mod_lt _ (by have := HB.out; omega)
          have k7 : IntKind.i64.wrap (a : Int) = a := i64_nat _ (by have := HB.out; omega)
          have k8 : IntKind.u64.wrap (k : Int) = (k : Int) := u64_same (by omega) (by have := KL.out; omega)
          have i6 : (0 : Int) ≤ (k : Int) := by omega
          have i7 : (k : Int) < (ln : Int) := by omega
          have i8 : (0 : Int) ≤ (a : Int) := by omega
          have i9 : (a : Int) < (n : Int) := by omega
          have hk200 : k < 200 := by have := KL.out; omega
          obtain ⟨s', r1, r2, r3, r4, r5⟩ := HQ.out.step (a := a) (d := [(k : Int), (u : Int), 0, 0, 0, 0, 0, 0]) (by have := HB.out; omega) (by have := HB.out; omega) han rfl (by have := MK.out; have := KL.out; omega)
          have hst := HQ.out.wt.store han (l := [(k : Int), (u : Int), 0, 0, 0, 0, 0, 0]) rfl
          have WT4 := HQ.out.wt.set_ a (l := [(k : Int), (u : Int), 0, 0, 0, 0, 0, 0]) rfl
          have hC4 := Chg.setCells (D := [gw]) (w := wr) (b := gw) (.inl (by simp)) ([(k : Int), (u : Int), 0, 0, 0, 0, 0, 0].map uv) (a * 8) wr (Chg.refl _ _)
          obtain ⟨W4, hW4⟩ : ∃ W4, wr.setCells gw (a * 8) ([(k : Int), (u : Int), 0, 0, 0, 0, 0, 0].map uv) = W4 := ⟨_, rfl⟩
          rw [hW4] at hst WT4 hC4
          have N4 := Lib.hid (HQ.out.nm.chg hC4 (by simpa using fun e => XX.out.2.2.2.2.2.1 e.symm))
          have Q4 := Lib.hid (HQ.out.lq.chg hC4 (by simpa using XX.out.2.2.2.2.2.2))
          have T4 := Lib.hid (HQ.out.tq.chg hC4 (by simpa using fun e => XX.out.2.2.2.2.1 e.symm))
          have B4 := Lib.hid (hC4.own HQ.out.bel KK.out.2.1)
          have l4 := WT4.load han
          rw [upd_same] at l4
          have W4t := Lib.hid WT4
          have R2 := Lib.hid r2; have R3 := Lib.hid r3; have R4 := Lib.hid r4; have R5 := Lib.hid r5
          have TC := Lib.hid (tput_is r1 HQ.out.tok (by have := HB.out; omega) han rfl (by have := MK.out; have := KL.out; have := Nat.div_le_self k per; omega) (by have := Nat.mod_lt k (show per > 0 by have := HB.out; omega); have := HB.out; omega)
            XX.out.1 XX.out.2.1 XX.out.2.2.1 (by have := HQ.out.c; have := KL.out; omega) T4.out Q4.out N4.out)
          clear hRr hcell r1 r2 r3 r4 r5 WT4 hC4 ha hW4
          go_wp2_with fail
          refine (TC.out).mono ?_; rintro e w5 ⟨rfl, hN, hT, hQ, hC⟩
          have KS : Hid (Kq w x q g gw n per w5 M K (k + 1) s') := Lib.hid ⟨hN, hQ, by rw [tp_next (by have := HB.out; omega)] at hT; exact hT, R2.out, R3.out,
            (W4t.out.chg hC (by simpa using ⟨XX.out.2.2.2.2.2.1, XX.out.2.2.2.2.1⟩)).as R4.out, hC.below B4.out B4.out.size (fun k hk => by rcases List.mem_cons.1 hk with rfl | hk; exact KK.out.1; rw [List.mem_singleton.1 hk]; exact XX.out.2.2.2.1), R5.out⟩
          clear hN hT hQ hC l4 hst
          go_wp2
          exact ⟨⟨k + 1, by omega, by go_num, Lib.hid ⟨_, KS.out⟩⟩, by simp [intOf]; omega⟩
        · obtain rfl : k = ln := by omega
          obtain ⟨dq, hdq⟩ : ∃ dq, dq = k / per := ⟨_, rfl⟩
          have t4 : (k : Int).tdiv (per : Int) = (dq : Int) := by rw [hdq]; exact tdiv_nat k per
          have hdk : dq ≤ k := by rw [hdq]; exact Nat.div_le_self ..
          have k7 : IntKind.i64.wrap (dq : Int) = (dq : Int) := i64_nat _ (by have := KL.out; omega)
          obtain ⟨M2, hM2⟩ : ∃ M2, M2 = M + dq := ⟨_, rfl⟩
          have k8 : IntKind.i64.wrap ((M : Int) + (dq : Int)) = (M2 : Int) := by rw [show (M : Int) + (dq : Int) = (M2 : Int) by omega]; exact i64_nat _ (by have := KL.out; have := MK.out; omega)
          have EM : Hid (M2 = M + k / per) := Lib.hid (by rw [hM2, hdq])
          have MC := Lib.hid (tmv_is (M := M2) (by rw [EM.out]; exact HQ.out.tok) HQ.out.tq HQ.out.nm)
          clear hdq hdk hM2
          go_wp2_with fail
          refine (MC.out).mono ?_; rintro e w' ⟨rfl, rfl⟩
          go_wp2
          go_loopw [104] (fun i wi => ∃ z : Nat, z ≤ n ∧ i = .int .i64 z ∧ Hid (Kq w x q g gw n per wi M K k s1)) (fun i _ => n - (intOf i).toNat)
          case atStart => exact ⟨0, Nat.zero_le _, rfl, HQ⟩
          case round =>
            obtain ⟨z, hz, rfl, KI⟩ := hrel
            clear HQ MC
            by_cases hzl : z < n
            · have lw := KI.out.wt.load hzl
              have h8 : (thold s1 n 0 (M + k / per) z).length = 8 := KI.out.tok.l.ok.line _
              obtain ⟨y, hy⟩ : ∃ y, thold s1 n 0 (M + k / per) z = y := ⟨_, rfl⟩
              rw [hy] at lw h8
              have EY := Lib.hid hy
              clear hy
              obtain ⟨W1, hW1, H1⟩ := boxed1 wr h8
              have KJ := Lib.hid (KI.out.below H1.out.2)
              have i6 : (0 : Int) ≤ (z : Int) := by omega
              have i7 : (z : Int) < (n : Int) := by omega
              have hz40 : z < 40 := by have := HB.out; omega
              go_wp2_with fail
              refine (tget_is EY.out KJ.out.tok (by have := HB.out; omega) hzl KJ.out.tq KJ.out.lq KJ.out.nm).mono ?_; rintro e w5 ⟨rfl, hb⟩
              obtain ⟨W2, hW2, H2⟩ := boxed1 w5 h8
              have KM := Lib.hid ((KJ.out.below hb).below H2.out.2)
              have l17 := ((H1.out.1.below hb).below H2.out.2).load
              have l18 := H2.out.1.load
              clear hb lw
              go_wp2
              exact ⟨⟨z + 1, by omega, by go_num, KM⟩, by simp [intOf]; omega⟩
            · obtain rfl : z = n := by omega
              have KD := Lib.hid (KI.out.done MK.out)
              go_wp2
              exact ⟨⟨j + 1, M2, K + k, by omega, by go_num, rfl, Lib.hid ⟨⟨_, by rw [EM.out]; exact KD.out⟩, KL.out.2.symm⟩⟩, by simp [intOf]; omega⟩
    · obtain rfl : j = 2 := by omega
      have B2 := Lib.hid HK.out.bel
      go_wp2_with fail
      refine (awake_any _).mono ?_; rintro e w7 ⟨rfl, hb⟩
      have B7 := Lib.hid (below_more B2.out hb)
      go_wp2
      go_ret
      exact ⟨rfl, B7.out⟩

theorem walk (a0 a1 : Int) (l1 : List Int) (v1 : Value) (l2 : List Int) (v2 : Value) (w : World) (_ : (Lit.int .i64 a0).wf = true) (_ : (Lit.int .i64 a1).wf = true) (h1 : IntsIn .i64 w v1 l1) (g1 : l1.length ≤ 17592186044416) (h2 : IntsIn .i64 w v2 l2) (g2 : l2.length ≤ 17592186044416) :
    Calls Try.prog 7 #[.int .i64 a0, .int .i64 a1, v1, v2] w fun e w' => e = .returned (.bool true) ∧ Below w.heap.size w w' := by
  by_cases hb : 200 < l1.length + l2.length
  · exact small a0 a1 l1 l2 v1 v2 w h1 h2 g1 g2 hb
  · exact main a0 a1 l1 l2 v1 v2 w h1 h2 (by omega)

set_option maxRecDepth 100000 in
theorem lifted (os : Os) (started : os.Started) (H : Type) (enc : TypeId × Value → H) :
    ReturnsInHanded {} Try.checked os 7 .any (Rows.turnFoundSpec.pre6 enc Try.prog Try.f7 Rows.turnFoundRow.domain false) (Rows.turnFoundSpec.post enc Try.prog Try.f7 false true false false) := by
  refine returnsInHanded_of_change_sized (C := Try.checked) own started (by kernel_rfl) Try.func7
    (ChangeSpec.witness6 (enc := enc) (C := Try.checked) false ⟨#[], #[.int .i64 0, .int .i64 0, .slice none 0 0, .slice none 0 0], []⟩ 8 (by kernel_rfl) (by kernel_rfl) (by kernel_rfl) (by kernel_rfl)) ?_
  intro W base args ds gs before hval0 hW hcnd hsz _
  have hval : ∀ (j : Nat) t v, Try.f7.params[j]? = some t → args[j]? = some v → Value.okWide Try.prog W .any base t v := hval0
  have hW' := hW
  have hlt := hW.lt
  obtain ⟨p, q, hA0, hV, hpq, hfz, hnd⟩ := hW
  have hA : DataW.TrodAll enc Try.prog W 0 (fun _ => true) true Try.f7.params.toList args.toList ds p := hA0
  rw [Try.params7] at hA hval
  obtain ⟨v0, vs0, d0, ds0, p0, q0, hargs, rfl, hp, h0, r0⟩ := trodAll_cons hA
  obtain ⟨v1, vs1, d1, ds1, p1, q1, rfl, rfl, rfl, h1, r1⟩ := trodAll_cons r0
  obtain ⟨v2, vs2, d2, ds2, p2, q2, rfl, rfl, rfl, h2, r2⟩ := trodAll_cons r1
  obtain ⟨v3, vs3, d3, ds3, p3, q3, rfl, rfl, rfl, h3, r3⟩ := trodAll_cons r2
  obtain ⟨rfl, rfl, rfl⟩ := trodAll_nil r3
  obtain rfl : args = #[v0, v1, v2, v3] := by cases args; simp_all
  obtain ⟨rfl, rfl⟩ := trodVars_none hV
  have hlt' : ∀ x ∈ before, x.block < W.heap.size := fun x hx => hlt x hx
  obtain ⟨a0, rfl, rfl, rfl, w0⟩ := open_int Try.underlying3 (hval 0 3 v0 rfl rfl) h0
  obtain ⟨a1, rfl, rfl, rfl, w1⟩ := open_int Try.underlying3 (hval 1 3 v1 rfl rfl) h1
  obtain ⟨l2, w2, z2⟩ := ints_in_sized (hval 2 22 v2 rfl rfl) (fun x hx => hlt' x (by rw [hpq, hp]; simp [hx])) h2 (j := 2) rfl rfl hsz
  obtain ⟨l3, w3, z3⟩ := ints_in_sized (hval 3 22 v3 rfl rfl) (fun x hx => hlt' x (by rw [hpq, hp]; simp [hx])) h3 (j := 3) rfl rfl hsz
  refine (walk a0 a1 l2 v2 l3 v3 W w0 w1 w2 z2 w3 z3).mono fun e W' ⟨he, hb⟩ => ?_
  subst he
  exact ⟨_, rfl, law_post rfl (by kernel_rfl) hW' (by rw [Try.params7]; intro t ht; simp only [List.mem_cons, List.not_mem_nil, or_false] at ht; (repeat' (first | (rcases ht with rfl | ht) | subst ht)) <;> exact ⟨by kernel_rfl, of_decide_eq_true (by kernel_rfl)⟩) rfl hb⟩

theorem over : Rows.turnFoundRow.holds Try.pinned (OpenSpec.ofChange Rows.turnFoundSpec) :=
  OpenClaim.holds_of_wide 7 Try.f7 rfl rfl rfl rfl rfl rfl rfl ⟨rfl, rfl, rfl, rfl, rfl⟩ rfl rfl rfl rfl rfl (by kernel_rfl) Try.func7 (by kernel_rfl)
    (of_decide_eq_true (by kernel_rfl)) (by unfold Func.isWrapper; first | (rw [if_pos (by decide +kernel)]; kernel_rfl) | (rw [if_neg (by decide +kernel)]; exact ⟨rfl, rfl⟩))
    (fun os started H enc _ => lifted os started H enc)

theorem proved : Rows.TurnFoundSaid := over
end Go.Proofs.Ytjchmkgkibiadaa.turnFound
