/-
  Lines that go round hold what was put last, and there are as many moves as Puts by the period; when no spare line is left it is said, and all is as it was. No conditions.
-/
import Derived.Test.YtjchmkgkibiadaaTnw
import Derived.Test.YtjchmkgkibiadaaTwl
import Derived.Test.YtjchmkgkibiadaaPt
import Derived.Test.YtjchmkgkibiadaaWt
namespace Go.Proofs.Ytjchmkgkibiadaa.turnKeeps
open Go.Proofs.Ytjchmkgkibiadaa Go.ChangeShapes Go.WideShapes Go.ChangeAt Go.RowKit

theorem td_le (per p : Nat) : td per p ≤ 1 := by unfold td; split <;> omega
/-- the lines and what they must hold, behind k Puts; p of them came so far; b: one failed -/
structure Kp (w : World) (x q g gw n P per : Nat) (wr : World) (k : Nat) (s : Nv) (M p : Nat) (b : Bool) : Prop where
  nm : Nm wr g s
  lq : Lq wr q g (n + 1) P
  tq : Tq wr x g q n per (p % per)
  tok : TOk s n P M
  comes : s.comes = false
  wt : Wt wr gw n (thold s n P M)
  bel : Below w.heap.size w wr
  c : s.c ≤ 81 * k
  pk : p ≤ k
  m : M ≤ p / per
  e : b = false → M = p / per
theorem Kp.below {w : World} {x q g gw n P per : Nat} {wr wr' : World} {k : Nat} {s : Nv} {M p : Nat} {b : Bool} (h : Kp w x q g gw n P per wr k s M p b) (hb : Below wr.heap.size wr wr') : Kp w x q g gw n P per wr' k s M p b :=
  ⟨h.nm.below hb, h.lq.below hb, h.tq.below hb, h.tok, h.comes, h.wt.below hb, below_base h.bel h.bel.size hb, h.c, h.pk, h.m, h.e⟩
theorem Kp.more {w : World} {x q g gw n P per : Nat} {wr : World} {k : Nat} {s : Nv} {M p : Nat} {b : Bool} (h : Kp w x q g gw n P per wr k s M p b) : Kp w x q g gw n P per wr (k + 1) s M p b :=
  ⟨h.nm, h.lq, h.tq, h.tok, h.comes, h.wt, h.bel, by have := h.c; push_cast; omega, by have := h.pk; omega, h.m, h.e⟩

set_option maxRecDepth 100000 in
theorem small (a0 a1 a2 : Int) (lim : List Int) (l : List Pt) (lv v : Value) (w : World) (hl : IntsIn .i64 w lv lim) (h : RP w v l) (hb : 200 < l.length ∨ 200 < lim.length) :
    Calls Try.prog 3 #[.int .i64 a0, .int .i64 a1, .int .i64 a2, lv, v] w fun e w' => e = .returned (.bool true) ∧ Below w.heap.size w w' := by
  obtain ⟨p, cap, rfl, h1, h2⟩ := rp_shape h
  obtain ⟨p2, cap2, rfl, h3, h4, _⟩ := hl
  unfold maxLen at h2 h4
  by_cases hx : 200 < l.length
  · have i1 : (200 : Int) < (l.length : Int) := by omega
    clear hb h
    generalize l.length = n at *
    go_enter Try.func3, Try.ntmps3
    go_wp2_with fail
    refine (awake_any _).mono ?_; rintro e w' ⟨rfl, hb⟩
    go_wp2_with fail
    go_ret
    exact ⟨rfl, hb⟩
  · have i1 : ¬ (200 : Int) < (l.length : Int) := by omega
    have i2 : (200 : Int) < (lim.length : Int) := by omega
    clear hb h
    generalize l.length = n at *
    generalize lim.length = n2 at *
    go_enter Try.func3, Try.ntmps3
    go_wp2_with fail
    refine (awake_any _).mono ?_; rintro e w' ⟨rfl, hb⟩
    go_wp2_with fail
    go_ret
    exact ⟨rfl, hb⟩

set_option maxRecDepth 100000 in
set_option maxHeartbeats 8000000 in
theorem main (a0 a1 a2 : Int) (lim : List Int) (l : List Pt) (lv v : Value) (w : World) (hl : IntsIn .i64 w lv lim) (h : RP w v l) (hb1 : l.length ≤ 200) (hb2 : lim.length ≤ 200) :
    Calls Try.prog 3 #[.int .i64 a0, .int .i64 a1, .int .i64 a2, lv, v] w fun e w' => e = .returned (.bool true) ∧ Below w.heap.size w w' := by
  obtain ⟨u0, hu0, _⟩ := u64_nat a0
  obtain ⟨m, hm⟩ : ∃ m, m = u0 % 30 := ⟨_, rfl⟩
  have t0 : (u0 : Int).tmod 30 = (m : Int) := by rw [hm]; exact tmod_nat u0 30
  obtain ⟨n, hn⟩ : ∃ n : Nat, n = m + 1 := ⟨_, rfl⟩
  have k0 : IntKind.i64.wrap (m : Int) = m := i64_nat _ (by omega)
  have k1 : IntKind.i64.wrap (1 + (m : Int)) = (n : Int) := by rw [show 1 + (m : Int) = (n : Int) by omega]; exact i64_nat _ (by omega)
  obtain ⟨u1, hu1, _⟩ := u64_nat a1
  obtain ⟨P, hP⟩ : ∃ P, P = u1 % 17 := ⟨_, rfl⟩
  have t1 : (u1 : Int).tmod 17 = (P : Int) := by rw [hP]; exact tmod_nat u1 17
  have k2 : IntKind.i64.wrap (P : Int) = P := i64_nat _ (by omega)
  obtain ⟨u2, hu2, _⟩ := u64_nat a2
  obtain ⟨m2, hm2⟩ : ∃ m2, m2 = u2 % 20 := ⟨_, rfl⟩
  have t2 : (u2 : Int).tmod 20 = (m2 : Int) := by rw [hm2]; exact tmod_nat u2 20
  obtain ⟨per, hper⟩ : ∃ per : Nat, per = m2 + 1 := ⟨_, rfl⟩
  have k3 : IntKind.i64.wrap (m2 : Int) = m2 := i64_nat _ (by omega)
  have k4 : IntKind.i64.wrap (1 + (m2 : Int)) = (per : Int) := by rw [show 1 + (m2 : Int) = (per : Int) by omega]; exact i64_nat _ (by omega)
  obtain ⟨n1, hn1⟩ : ∃ n1 : Nat, n1 = n + 1 := ⟨_, rfl⟩
  have k5 : IntKind.i64.wrap ((n : Int) + 1) = (n1 : Int) := by rw [show (n : Int) + 1 = (n1 : Int) by omega]; exact i64_nat _ (by omega)
  obtain ⟨N, hN⟩ : ∃ N : Nat, N = n1 + P := ⟨_, rfl⟩
  have k6 : IntKind.i64.wrap ((n1 : Int) + (P : Int)) = (N : Int) := by rw [show (n1 : Int) + (P : Int) = (N : Int) by omega]; exact i64_nat _ (by omega)
  have HB : Hid (1 ≤ n ∧ n ≤ 30 ∧ P ≤ 16 ∧ 1 ≤ per ∧ per ≤ 20 ∧ N = n + 1 + P) := Lib.hid ⟨by omega, by omega, by omega, by omega, by omega, by omega⟩
  have z3 : ¬ per = 0 := by omega
  have z4 : ¬ (per : Int) = 0 := by omega
  have R0 := Lib.hid (ri_in hl)
  have HR := Lib.hid h
  have LK := newNv_tok (n := n) (P := P) (by omega) (by omega) (by omega) lim
  rw [show n + 1 + P = N by omega] at LK
  have HK := Lib.hid LK
  have HZ : Hid ((∀ i, zeros = thold (newNv N lim) n P 0 i) ∧ (newNv N lim).c ≤ 81 * 0) := Lib.hid ⟨fun i => rfl, Int.le_refl _⟩
  obtain ⟨pp, cap, rfl, h1, h2⟩ := rp_shape h
  obtain ⟨p2, cap2, rfl, h3, h4, _⟩ := hl
  have i1 : ¬ (200 : Int) < (l.length : Int) := by omega
  have i2 : ¬ (200 : Int) < (lim.length : Int) := by omega
  have hmk := run_make_want n (by omega)
  obtain ⟨len, hlen⟩ : ∃ len, l.length = len := ⟨_, rfl⟩
  obtain ⟨n2, hn2⟩ : ∃ n2, lim.length = n2 := ⟨_, rfl⟩
  have EN := Lib.hid hlen
  have HN200 : Hid (len ≤ 200) := Lib.hid (by omega)
  rw [hlen] at i1 HR ⊢
  rw [hn2] at i2 R0 ⊢
  clear hm hn hP hm2 hper hn1 hN h h1 h2 h3 h4 hb1 hb2 hlen hn2 LK
  go_enter Try.func3, Try.ntmps3
  go_wp2_with fail
  refine (new_yes N _ _ w (by have := HB.out; omega) (by have := HB.out; omega) R0.out).mono ?_; rintro e w1 ⟨g, rfl, hg, hN, hb⟩
  have G1 := Lib.hid hg
  have N1 := Lib.hid hN
  have B1 := Lib.hid hb
  clear hg hN hb
  go_wp2_with fail
  refine (tnew_yes (per := per) HK.out (by have := HB.out; omega) (by have := HB.out; omega) (by have := HB.out; omega) (by have := HB.out; omega) (by decide) N1.out).mono ?_; rintro e w2 ⟨x, q, rfl, hx, hq, hxq, hQ, hT, hb⟩
  go_wp2_with fail
  refine (tlines_is hT).mono ?_; rintro e w' ⟨rfl, rfl⟩
  obtain ⟨gw, hgw⟩ : ∃ gw, w2.heap.size = gw := ⟨_, rfl⟩
  have W3 := Wt.new w2 n
  have B3 := below_more B1.out hb
  have XX : Hid (q ≠ g ∧ x ≠ g ∧ x ≠ q ∧ w.heap.size ≤ x ∧ w.heap.size ≤ g ∧ gw ≠ g ∧ gw ≠ x ∧ q ≠ gw ∧ w.heap.size ≤ gw) := Lib.hid ⟨by have := N1.out.lt; omega, by have := N1.out.lt; omega, hxq, Nat.le_trans B1.out.size hx, G1.out, by have := (N1.out.below hb).lt; omega, by have := hT.lt; omega, by have := hQ.lt; omega, by rw [← hgw]; exact B3.size⟩
  have KP : Hid (Kp w x q g gw n P per (w2.alloc (.cells (tab (n * 8) (wl fun _ => zeros)) 33)) 0 (newNv N lim) 0 0 false) :=
    Lib.hid ⟨(N1.out.below hb).alloc _, hQ.alloc _, by rw [Nat.zero_mod]; exact hT.alloc _, HK.out, rfl, by rw [← hgw]; exact W3.as fun i _ => (HZ.out.1 i).symm, bal B3, HZ.out.2, Nat.le_refl _, Nat.zero_le _, fun _ => (Nat.zero_div _).symm⟩
  have hmk2 := hmk w2
  clear hmk
  rw [hgw] at hmk2
  clear hx hq hxq hQ hT hb W3 B3 t0 t1 t2 k0 k1 k2 k3 k4 k5 k6 hgw
  go_wp2
  go_loopw [14, 15, 69] (fun pu wo i wr => ∃ k p b, k ≤ len ∧ i = .int .i64 (k : Nat) ∧ pu = .int .i64 (p : Nat) ∧ wo = .bool b ∧ Hid (∃ s M, Kp w x q g gw n P per wr k s M p b)) (fun _ _ i _ => len - (intOf i).toNat)
  case atStart => exact ⟨0, 0, false, Nat.zero_le _, rfl, rfl, rfl, Lib.hid ⟨_, _, KP.out⟩⟩
  case round =>
    obtain ⟨k, p, b, hk, rfl, rfl, rfl, H⟩ := hrel
    obtain ⟨s, M, hs⟩ := H.out
    have HK0 := Lib.hid hs
    clear hs H KP hmk2
    by_cases hlt : k < len
    · have hRr := rp_below HR.out HK0.out.bel
      obtain ⟨bb, off, rfl, hbb, hld, hwf⟩ := rp_at hRr (k := k) (by rw [EN.out]; exact hlt)
      obtain ⟨c, hc⟩ : ∃ c, l.getD k default = c := ⟨_, rfl⟩
      rw [hc] at hld hwf
      have hci := hwf.len
      rcases c with ⟨ci, cl⟩
      obtain ⟨W1, hW1⟩ : ∃ W1, wr.alloc (.cells (pc ⟨ci, cl⟩) 35) = W1 := ⟨_, rfl⟩
      have PV := Pv.new wr hci
      have BA := bal (o := .cells (pc ⟨ci, cl⟩) 35) (Below.refl wr.heap.size wr)
      rw [hW1] at PV BA
      have PV1 := Lib.hid PV
      have KB := Lib.hid (HK0.out.below BA)
      have PB : Hid (¬ wr.heap.size = g ∧ ¬ wr.heap.size = x) := Lib.hid ⟨by have := HK0.out.nm.lt; omega, by have := HK0.out.tq.lt; omega⟩
      have i3 : (0 : Int) ≤ (k : Int) := by omega
      have i4 : (k : Int) < (len : Int) := by omega
      obtain ⟨p1, hp1⟩ : ∃ p1 : Nat, p1 = p + 1 := ⟨_, rfl⟩
      have j1 : IntKind.i64.wrap ((p : Int) + 1) = (p1 : Int) := by rw [show (p : Int) + 1 = (p1 : Int) by omega]; exact i64_nat _ (by have := HK0.out.pk; have := HN200.out; omega)
      obtain ⟨mm, hmm⟩ : ∃ mm, mm = p1 / per := ⟨_, rfl⟩
      have t4 : (p1 : Int).tdiv (per : Int) = (mm : Int) := by rw [hmm]; exact tdiv_nat p1 per
      have j2 : IntKind.i64.wrap (mm : Int) = (mm : Int) := i64_nat _ (by have := HK0.out.pk; have := HN200.out; have : mm ≤ p1 := by { rw [hmm]; exact Nat.div_le_self .. }; omega)
      have EP1 := Lib.hid hp1
      have EMM := Lib.hid hmm
      have c3 := PV1.out.slot
      have l3 := PV1.out.line
      clear hc hwf PV BA hRr hbb hp1 hmm
      dsimp only at c3 l3
      by_cases ha : 0 ≤ ci ∧ ci < n
      · obtain ⟨a, rfl⟩ : ∃ a : Nat, ci = a := ⟨ci.toNat, by omega⟩
        have has : a < n := by omega
        have i8 : ¬ (a : Int) < 0 := by omega
        have i9 : ¬ (a : Int) ≥ (n : Int) := by omega
        have i10 : (0 : Int) ≤ (a : Int) := by omega
        have i11 : (a : Int) < (n : Int) := by omega
        have MB : Hid (M ≤ 200 ∧ p % per < 20) := Lib.hid ⟨by have := HK0.out.m; have := Nat.div_le_self p per; have := HK0.out.pk; have := HN200.out; omega, by have := Nat.mod_lt p (show per > 0 by have := HB.out; omega); have := HB.out; omega⟩
        obtain ⟨M', o, oc⟩ := tput_out (per := per) (p := p % per) (a := a) (d := cl) KB.out.tok (by have := HB.out; omega) has hci (by have := MB.out; omega)
        obtain ⟨R, hR⟩ : ∃ R, tput n P per (p % per) M a cl s = R := ⟨_, rfl⟩
        rw [hR] at o oc
        rcases R with ⟨y, s'⟩
        dsimp only at o oc
        have TC := Lib.hid (tput_is hR KB.out.tok (by have := HB.out; omega) has hci (by have := MB.out; omega) (by have := MB.out; omega) XX.out.1 XX.out.2.1 XX.out.2.2.1 (by have := KB.out.c; have := HN200.out; omega) KB.out.tq KB.out.lq KB.out.nm)
        have OO := Lib.hid (And.intro o oc)
        have ML : Hid (M' ≤ p1 / per) := Lib.hid (by rw [EP1.out, ← td_next (by have := HB.out; omega)]; have := o.hi; have := KB.out.m; omega)
        have own := o.own
        clear hR ha o oc
        rcases own with ⟨hx, hd, hM, hh⟩ | ⟨hx, hd, hlf, hh⟩ | ⟨_, hcm, _⟩
        · have LS := Lib.hid (OO.out.1.tok KB.out.tok hd (by have := OO.out.1.hi; have := MB.out; have := td_le per (p % per); omega))
          clear hd
          have X1 := Lib.hid hh
          have XM := Lib.hid hM
          subst hx
          clear hh hM
          go_wp2_with fail
          refine (TC.out).mono ?_; rintro e w3 ⟨rfl, hN, hT, hQ, hC⟩
          have PV3 := Lib.hid (PV1.out.chg hC (by have := PB.out; simpa using this))
          have WT3 := KB.out.wt.chg hC (by simpa using ⟨XX.out.2.2.2.2.2.1, XX.out.2.2.2.2.2.2.1⟩)
          have hst := WT3.store has hci
          have WT4 := (WT3.set_ a hci).as (f' := thold s' n P M') (fun i hi => by
            unfold upd; split
            · rename_i e; subst e; exact X1.out
            · rename_i e; exact OO.out.1.oth i hi e)
          have hC4 := Chg.setCells (D := [gw]) (w := w3) (b := gw) (.inl (by simp)) (cl.map uv) (a * 8) w3 (Chg.refl _ _)
          have B3 := hC.below KB.out.bel KB.out.bel.size (fun k hk => by rcases List.mem_cons.1 hk with rfl | hk; exact XX.out.2.2.2.2.1; rw [List.mem_singleton.1 hk]; exact XX.out.2.2.2.1)
          rw [tp_next (by have := HB.out; omega), ← EP1.out] at hT
          obtain ⟨W4, hW4⟩ : ∃ W4, w3.setCells gw (a * 8) (cl.map uv) = W4 := ⟨_, rfl⟩
          rw [hW4] at hst WT4 hC4
          have KS : Hid (Kp w x q g gw n P per W4 (k + 1) s' M' p1 b) := Lib.hid ⟨hN.chg hC4 (by simpa using fun e => XX.out.2.2.2.2.2.1 e.symm), hQ.chg hC4 (by simpa using XX.out.2.2.2.2.2.2.2.1), hT.chg hC4 (by simpa using fun e => XX.out.2.2.2.2.2.2.1 e.symm), LS.out, OO.out.1.comes.trans KB.out.comes, WT4, hC4.own B3 XX.out.2.2.2.2.2.2.2.2,
            by have := KB.out.c; have := OO.out.2; push_cast; omega, by have := KB.out.pk; have := EP1.out; omega, ML.out, fun h => by rw [XM.out, KB.out.e h, td_next (by have := HB.out; omega), EP1.out]⟩
          have c4 := PV3.out.slot
          dsimp only at c4
          have l4 := PV3.out.line
          dsimp only at l4
          clear hN hT hQ hC c3 l3 WT3 WT4 hC4 B3 hW4
          cases b
          · have MC := Lib.hid (fun (w' : World) (hb : Below W4.heap.size W4 w') => tmv_is (M := mm) (by rw [EMM.out, ← KS.out.e rfl]; exact KS.out.tok) (KS.out.tq.below hb) (KS.out.nm.below hb))
            have hw0 : Below W4.heap.size W4 W4 := Below.refl _ _
            go_wp2
            go_region_held3 (fun w' => Below W4.heap.size W4 w')
              (first | assumption | exact (Below.refl _ _).drew)
              (first
                | (go_at_call 15; refine (MC.out _ (by assumption)).mono ?_; rintro e wq ⟨rfl, rfl⟩))
            have KT := Lib.hid (KS.out.below ((Below.refl W4.heap.size W4).drew))
            clear MC hw0 KS
            go_wp2
            go_loopw [135] (fun i wi => ∃ z : Nat, z ≤ n ∧ i = .int .i64 z ∧ Hid (Kp w x q g gw n P per wi (k + 1) s' M' p1 false)) (fun i _ => n - (intOf i).toNat)
            case atStart => exact ⟨0, Nat.zero_le _, rfl, KT⟩
            case round =>
              obtain ⟨z, hz, rfl, KI⟩ := hrel
              clear KT
              by_cases hzl : z < n
              · have lw := KI.out.wt.load hzl
                have h8 : (thold s' n P M' z).length = 8 := KI.out.tok.l.ok.line _
                obtain ⟨y, hy⟩ : ∃ y, thold s' n P M' z = y := ⟨_, rfl⟩
                rw [hy] at lw h8
                have EY := Lib.hid hy
                clear hy
                obtain ⟨W1, hW1, H1⟩ := boxed1 wr h8
                have KJ := Lib.hid (KI.out.below H1.out.2)
                have i6 : (0 : Int) ≤ (z : Int) := by omega
                have i7 : (z : Int) < (n : Int) := by omega
                have hz40 : z < 40 := by have := HB.out; omega
                go_wp2_with fail
                refine (tget_is EY.out KJ.out.tok (by have := HB.out; omega) hzl KJ.out.tq KJ.out.lq KJ.out.nm).mono ?_; rintro e w5 ⟨rfl, hb⟩
                obtain ⟨W2, hW2, H2⟩ := boxed1 w5 h8
                have KM := Lib.hid ((KJ.out.below hb).below H2.out.2)
                have l17 := ((H1.out.1.below hb).below H2.out.2).load
                have l18 := H2.out.1.load
                clear hb lw
                go_wp2
                exact ⟨⟨z + 1, by omega, by go_num, KM⟩, by simp [intOf]; omega⟩
              · obtain rfl : z = n := by omega
                go_wp2
                exact ⟨⟨k + 1, p1, false, by omega, by go_num, rfl, rfl, Lib.hid ⟨_, _, KI.out⟩⟩, by simp [intOf]; omega⟩
          · have MC := Lib.hid (fun (w' : World) (hb : Below W4.heap.size W4 w') => tmv_is (M := M') KS.out.tok (KS.out.tq.below hb) (KS.out.nm.below hb))
            have i20 : ¬ (M' : Int) > (mm : Int) := by have := KS.out.m; have := EMM.out; omega
            have i21 : ¬ mm < M' := by have := KS.out.m; have := EMM.out; omega
            have hw0 : Below W4.heap.size W4 W4 := Below.refl _ _
            go_wp2
            refine wp_region_held_drew (S := fun w' => Below W4.heap.size W4 w') (by kernel_rfl) ((Below.refl _ _).drew) (fun hHeld => ?_)
            refine wpAnyH_take (i := 0) (oi := ⟨some 115, _, _, _, _, _⟩) (v := ?_) rfl (by kernel_rfl) (by kernel_rfl) (by kernel_rfl) (fun _ _ _ h => h) (Or.inl ⟨by rfl, ?_⟩) (by assumption) ?_
            rotate_left
            focus (intro w hSw; (try dsimp only at hSw); go_simp; try with_reducible rfl)
            try simp only [Act.put, List.setIfInBounds_toArray, List.set_cons_zero, List.set_cons_succ]
            refine wpAnyH_take (i := 1) (oi := ⟨some 116, _, _, _, _, _⟩) (v := ?_) rfl (by kernel_rfl) (by kernel_rfl) (by kernel_rfl) (fun _ _ _ h => h) (Or.inl ⟨by rfl, ?_⟩) (by assumption) ?_
            rotate_left
            focus (intro w hSw; (try dsimp only at hSw); go_simp; try with_reducible rfl)
            try simp only [Act.put, List.setIfInBounds_toArray, List.set_cons_zero, List.set_cons_succ]
            refine wpAnyH_take (i := 2) (oi := ⟨some 117, _, _, _, _, _⟩) (v := ?_) rfl (by kernel_rfl) (by kernel_rfl) (by kernel_rfl) (fun _ _ _ h => h) (Or.inl ⟨by rfl, ?_⟩) (by assumption) ?_
            rotate_left
            focus (intro w hSw; (try dsimp only at hSw); go_simp; try with_reducible rfl)
            try simp only [Act.put, List.setIfInBounds_toArray, List.set_cons_zero, List.set_cons_succ]
            refine wpAnyH_take (i := 3) (oi := ⟨some 118, _, _, _, _, _⟩) (v := undef) rfl (by kernel_rfl) (by kernel_rfl) (by kernel_rfl) (fun _ _ _ h => h) (Or.inr ⟨by rfl, rfl⟩) (by assumption) ?_
            try simp only [Act.put, List.setIfInBounds_toArray, List.set_cons_zero, List.set_cons_succ]
            refine wpAnyH_take (i := 4) (oi := ⟨some 119, _, _, _, _, _⟩) (v := undef) rfl (by kernel_rfl) (by kernel_rfl) (by kernel_rfl) (fun _ _ _ h => h) (Or.inr ⟨by rfl, rfl⟩) (by assumption) ?_
            try simp only [Act.put, List.setIfInBounds_toArray, List.set_cons_zero, List.set_cons_succ]
            refine wpAnyH_take (i := 5) (oi := ⟨some 120, _, _, _, _, _⟩) (v := undef) rfl (by kernel_rfl) (by kernel_rfl) (by kernel_rfl) (fun _ _ _ h => h) (Or.inr ⟨by rfl, rfl⟩) (by assumption) ?_
            try simp only [Act.put, List.setIfInBounds_toArray, List.set_cons_zero, List.set_cons_succ]
            refine wpAnyH_take (i := 6) (oi := ⟨some 121, _, _, _, _, _⟩) (v := undef) rfl (by kernel_rfl) (by kernel_rfl) (by kernel_rfl) (fun _ _ _ h => h) (Or.inr ⟨by rfl, rfl⟩) (by assumption) ?_
            try simp only [Act.put, List.setIfInBounds_toArray, List.set_cons_zero, List.set_cons_succ]
            refine wpAnyH_take (i := 7) (oi := ⟨some 122, _, _, _, _, _⟩) (v := undef) rfl (by kernel_rfl) (by kernel_rfl) (by kernel_rfl) (fun _ _ _ h => h) (Or.inr ⟨by rfl, rfl⟩) (by assumption) ?_
            try simp only [Act.put, List.setIfInBounds_toArray, List.set_cons_zero, List.set_cons_succ]
            refine wpAnyH_take (i := 8) (oi := ⟨some 123, _, _, _, _, _⟩) (v := undef) rfl (by kernel_rfl) (by kernel_rfl) (by kernel_rfl) (fun _ _ _ h => h) (Or.inr ⟨by rfl, rfl⟩) (by assumption) ?_
            try simp only [Act.put, List.setIfInBounds_toArray, List.set_cons_zero, List.set_cons_succ]
            refine wpAnyH_take (i := 9) (oi := ⟨some 124, _, _, _, _, _⟩) (v := ?_) rfl (by kernel_rfl) (by kernel_rfl) (by kernel_rfl) (fun _ _ _ h => h) (Or.inl ⟨by rfl, ?_⟩) (by assumption) ?_
            rotate_left
            focus (intro w hSw; (try dsimp only at hSw); go_simp; try with_reducible rfl)
            try simp only [Act.put, List.setIfInBounds_toArray, List.set_cons_zero, List.set_cons_succ]
            refine wpAnyH_take (i := 10) (oi := ⟨some 125, _, _, _, _, _⟩) (v := ?_) rfl (by kernel_rfl) (by kernel_rfl) (by kernel_rfl) (fun _ _ _ h => h) (Or.inl ⟨by rfl, ?_⟩) (by assumption) ?_
            rotate_left
            focus (intro w hSw; (try dsimp only at hSw); go_simp; try with_reducible rfl)
            try simp only [Act.put, List.setIfInBounds_toArray, List.set_cons_zero, List.set_cons_succ]
            refine wpAnyH_take (i := 11) (oi := ⟨some 126, _, _, _, _, _⟩) (v := ?_) rfl (by kernel_rfl) (by kernel_rfl) (by kernel_rfl) (fun _ _ _ h => h) (Or.inl ⟨by rfl, ?_⟩) (by assumption) ?_
            rotate_left
            focus (intro w hSw; (try dsimp only at hSw); go_simp; try with_reducible rfl)
            try simp only [Act.put, List.setIfInBounds_toArray, List.set_cons_zero, List.set_cons_succ]
            refine wpAnyH_take (i := 13) (oi := ⟨some 128, _, _, _, _, _⟩) (v := ?_) rfl (by kernel_rfl) (by kernel_rfl) (by kernel_rfl) (fun _ _ _ h => h) (Or.inl ⟨by rfl, ?_⟩) (by assumption) ?_
            rotate_left
            focus (intro w hSw; (try dsimp only at hSw); go_simp; try with_reducible rfl)
            try simp only [Act.put, List.setIfInBounds_toArray, List.set_cons_zero, List.set_cons_succ]
            refine wpAnyH_take (i := 14) (oi := ⟨some 129, _, _, _, _, _⟩) (v := ?_) rfl (by kernel_rfl) (by kernel_rfl) (by kernel_rfl) (fun _ _ _ h => h) (Or.inl ⟨by rfl, ?_⟩) (by assumption) ?_
            rotate_left
            focus (intro w hSw; (try dsimp only at hSw); go_simp; try with_reducible rfl)
            try simp only [Act.put, List.setIfInBounds_toArray, List.set_cons_zero, List.set_cons_succ]
            refine wpAnyH_take (i := 15) (oi := ⟨some 130, _, _, _, _, _⟩) (v := ?_) rfl (by kernel_rfl) (by kernel_rfl) (by kernel_rfl) (fun _ _ _ h => h) (Or.inl ⟨by rfl, ?_⟩) (by assumption) ?_
            rotate_left
            focus (intro w hSw; (try dsimp only at hSw); go_simp; try with_reducible rfl)
            try simp only [Act.put, List.setIfInBounds_toArray, List.set_cons_zero, List.set_cons_succ]
            refine wpAnyH_ready (rs := [12]) (by kernel_rfl) (by simp) ?_
            refine AllReadyH.cons (o := ⟨some 127, _, _, _, _, _⟩) rfl (fun K hK => ?_) AllReadyH.nil
            go_simp
            go_at_call 15; refine (MC.out _ (by assumption)).mono ?_; rintro e wq ⟨rfl, rfl⟩
            refine hK.out _ _ (by assumption) (fun hHeld => ?_)
            clear hK K
            try simp only [Act.put, List.setIfInBounds_toArray, List.set_cons_zero, List.set_cons_succ]
            refine wpAnyH_take (i := 16) (oi := ⟨some 131, _, _, _, _, _⟩) (v := ?_) rfl (by kernel_rfl) (by kernel_rfl) (by kernel_rfl) (fun _ _ _ h => h) (Or.inl ⟨by rfl, ?_⟩) (by assumption) ?_
            rotate_left
            focus (intro w hSw; (try dsimp only at hSw); go_simp; try with_reducible rfl)
            try simp only [Act.put, List.setIfInBounds_toArray, List.set_cons_zero, List.set_cons_succ]
            refine wpAnyH_take (i := 17) (oi := ⟨some 132, _, _, _, _, _⟩) (v := ?_) rfl (by kernel_rfl) (by kernel_rfl) (by kernel_rfl) (fun _ _ _ h => h) (Or.inl ⟨by rfl, ?_⟩) (by assumption) ?_
            rotate_left
            focus (intro w hSw; (try dsimp only at hSw); go_simp; try with_reducible rfl)
            try simp only [Act.put, List.setIfInBounds_toArray, List.set_cons_zero, List.set_cons_succ]
            refine wpAnyH_done (by kernel_rfl) ?_ _
            have KT := Lib.hid (KS.out.below ((Below.refl W4.heap.size W4).drew))
            clear MC hw0 KS
            go_wp2
            go_loopw [135] (fun i wi => ∃ z : Nat, z ≤ n ∧ i = .int .i64 z ∧ Hid (Kp w x q g gw n P per wi (k + 1) s' M' p1 true)) (fun i _ => n - (intOf i).toNat)
            case atStart => exact ⟨0, Nat.zero_le _, rfl, KT⟩
            case round =>
              obtain ⟨z, hz, rfl, KI⟩ := hrel
              clear KT
              by_cases hzl : z < n
              · have lw := KI.out.wt.load hzl
                have h8 : (thold s' n P M' z).length = 8 := KI.out.tok.l.ok.line _
                obtain ⟨y, hy⟩ : ∃ y, thold s' n P M' z = y := ⟨_, rfl⟩
                rw [hy] at lw h8
                have EY := Lib.hid hy
                clear hy
                obtain ⟨W1, hW1, H1⟩ := boxed1 wr h8
                have KJ := Lib.hid (KI.out.below H1.out.2)
                have i6 : (0 : Int) ≤ (z : Int) := by omega
                have i7 : (z : Int) < (n : Int) := by omega
                have hz40 : z < 40 := by have := HB.out; omega
                go_wp2_with fail
                refine (tget_is EY.out KJ.out.tok (by have := HB.out; omega) hzl KJ.out.tq KJ.out.lq KJ.out.nm).mono ?_; rintro e w5 ⟨rfl, hb⟩
                obtain ⟨W2, hW2, H2⟩ := boxed1 w5 h8
                have KM := Lib.hid ((KJ.out.below hb).below H2.out.2)
                have l17 := ((H1.out.1.below hb).below H2.out.2).load
                have l18 := H2.out.1.load
                clear hb lw
                go_wp2
                exact ⟨⟨z + 1, by omega, by go_num, KM⟩, by simp [intOf]; omega⟩
              · obtain rfl : z = n := by omega
                go_wp2
                exact ⟨⟨k + 1, p1, true, by omega, by go_num, rfl, rfl, Lib.hid ⟨_, _, KI.out⟩⟩, by simp [intOf]; omega⟩
        · have LS := Lib.hid (OO.out.1.tok KB.out.tok hd (by have := OO.out.1.hi; have := MB.out; have := td_le per (p % per); omega))
          clear hd
          have X1 := Lib.hid hh
          have X2 := Lib.hid hlf
          subst hx
          clear hh hlf
          go_wp2_with fail
          refine (TC.out).mono ?_; rintro e w3 ⟨rfl, hN, hT, hQ, hC⟩
          have PV3 := Lib.hid (PV1.out.chg hC (by have := PB.out; simpa using this))
          have B3 := hC.below KB.out.bel KB.out.bel.size (fun k hk => by rcases List.mem_cons.1 hk with rfl | hk; exact XX.out.2.2.2.2.1; rw [List.mem_singleton.1 hk]; exact XX.out.2.2.2.1)
          rw [tp_next (by have := HB.out; omega), ← EP1.out] at hT
          have KX : Hid (Kp w x q g gw n P per w3 (k + 1) s' M' p1 true) := Lib.hid ⟨hN, hQ, hT, LS.out, OO.out.1.comes.trans KB.out.comes, (KB.out.wt.chg hC (by simpa using ⟨XX.out.2.2.2.2.2.1, XX.out.2.2.2.2.2.2.1⟩)).as (fun i hi => by
            by_cases e : i = a
            · subst e; exact X1.out
            · exact OO.out.1.oth i hi e), B3, by have := KB.out.c; have := OO.out.2; push_cast; omega, by have := KB.out.pk; have := EP1.out; omega, ML.out, fun h => by cases h⟩
          have c4 := PV3.out.slot
          dsimp only at c4
          clear hN hT hQ hC c3 l3 B3
          go_wp2_with fail
          refine (tleft_is X2.out KX.out.tok KX.out.tq KX.out.lq KX.out.nm).mono ?_; rintro e wx ⟨rfl, hb⟩
          have KS := Lib.hid (KX.out.below hb)
          clear hb KX
          cases b
          · have MC := Lib.hid (fun (w' : World) (hb : Below wx.heap.size wx w') => tmv_is (M := M') KS.out.tok (KS.out.tq.below hb) (KS.out.nm.below hb))
            have i20 : ¬ (M' : Int) > (mm : Int) := by have := KS.out.m; have := EMM.out; omega
            have i21 : ¬ mm < M' := by have := KS.out.m; have := EMM.out; omega
            have hw0 : Below wx.heap.size wx wx := Below.refl _ _
            go_wp2
            refine wp_region_held_drew (S := fun w' => Below wx.heap.size wx w') (by kernel_rfl) ((Below.refl _ _).drew) (fun hHeld => ?_)
            refine wpAnyH_take (i := 0) (oi := ⟨some 115, _, _, _, _, _⟩) (v := ?_) rfl (by kernel_rfl) (by kernel_rfl) (by kernel_rfl) (fun _ _ _ h => h) (Or.inl ⟨by rfl, ?_⟩) (by assumption) ?_
            rotate_left
            focus (intro w hSw; (try dsimp only at hSw); go_simp; try with_reducible rfl)
            try simp only [Act.put, List.setIfInBounds_toArray, List.set_cons_zero, List.set_cons_succ]
            refine wpAnyH_take (i := 1) (oi := ⟨some 116, _, _, _, _, _⟩) (v := ?_) rfl (by kernel_rfl) (by kernel_rfl) (by kernel_rfl) (fun _ _ _ h => h) (Or.inl ⟨by rfl, ?_⟩) (by assumption) ?_
            rotate_left
            focus (intro w hSw; (try dsimp only at hSw); go_simp; try with_reducible rfl)
            try simp only [Act.put, List.setIfInBounds_toArray, List.set_cons_zero, List.set_cons_succ]
            refine wpAnyH_take (i := 2) (oi := ⟨some 117, _, _, _, _, _⟩) (v := ?_) rfl (by kernel_rfl) (by kernel_rfl) (by kernel_rfl) (fun _ _ _ h => h) (Or.inl ⟨by rfl, ?_⟩) (by assumption) ?_
            rotate_left
            focus (intro w hSw; (try dsimp only at hSw); go_simp; try with_reducible rfl)
            try simp only [Act.put, List.setIfInBounds_toArray, List.set_cons_zero, List.set_cons_succ]
            refine wpAnyH_take (i := 3) (oi := ⟨some 118, _, _, _, _, _⟩) (v := undef) rfl (by kernel_rfl) (by kernel_rfl) (by kernel_rfl) (fun _ _ _ h => h) (Or.inr ⟨by rfl, rfl⟩) (by assumption) ?_
            try simp only [Act.put, List.setIfInBounds_toArray, List.set_cons_zero, List.set_cons_succ]
            refine wpAnyH_take (i := 4) (oi := ⟨some 119, _, _, _, _, _⟩) (v := undef) rfl (by kernel_rfl) (by kernel_rfl) (by kernel_rfl) (fun _ _ _ h => h) (Or.inr ⟨by rfl, rfl⟩) (by assumption) ?_
            try simp only [Act.put, List.setIfInBounds_toArray, List.set_cons_zero, List.set_cons_succ]
            refine wpAnyH_take (i := 5) (oi := ⟨some 120, _, _, _, _, _⟩) (v := undef) rfl (by kernel_rfl) (by kernel_rfl) (by kernel_rfl) (fun _ _ _ h => h) (Or.inr ⟨by rfl, rfl⟩) (by assumption) ?_
            try simp only [Act.put, List.setIfInBounds_toArray, List.set_cons_zero, List.set_cons_succ]
            refine wpAnyH_take (i := 6) (oi := ⟨some 121, _, _, _, _, _⟩) (v := undef) rfl (by kernel_rfl) (by kernel_rfl) (by kernel_rfl) (fun _ _ _ h => h) (Or.inr ⟨by rfl, rfl⟩) (by assumption) ?_
            try simp only [Act.put, List.setIfInBounds_toArray, List.set_cons_zero, List.set_cons_succ]
            refine wpAnyH_take (i := 7) (oi := ⟨some 122, _, _, _, _, _⟩) (v := undef) rfl (by kernel_rfl) (by kernel_rfl) (by kernel_rfl) (fun _ _ _ h => h) (Or.inr ⟨by rfl, rfl⟩) (by assumption) ?_
            try simp only [Act.put, List.setIfInBounds_toArray, List.set_cons_zero, List.set_cons_succ]
            refine wpAnyH_take (i := 8) (oi := ⟨some 123, _, _, _, _, _⟩) (v := undef) rfl (by kernel_rfl) (by kernel_rfl) (by kernel_rfl) (fun _ _ _ h => h) (Or.inr ⟨by rfl, rfl⟩) (by assumption) ?_
            try simp only [Act.put, List.setIfInBounds_toArray, List.set_cons_zero, List.set_cons_succ]
            refine wpAnyH_take (i := 9) (oi := ⟨some 124, _, _, _, _, _⟩) (v := ?_) rfl (by kernel_rfl) (by kernel_rfl) (by kernel_rfl) (fun _ _ _ h => h) (Or.inl ⟨by rfl, ?_⟩) (by assumption) ?_
            rotate_left
            focus (intro w hSw; (try dsimp only at hSw); go_simp; try with_reducible rfl)
            try simp only [Act.put, List.setIfInBounds_toArray, List.set_cons_zero, List.set_cons_succ]
            refine wpAnyH_take (i := 10) (oi := ⟨some 125, _, _, _, _, _⟩) (v := ?_) rfl (by kernel_rfl) (by kernel_rfl) (by kernel_rfl) (fun _ _ _ h => h) (Or.inl ⟨by rfl, ?_⟩) (by assumption) ?_
            rotate_left
            focus (intro w hSw; (try dsimp only at hSw); go_simp; try with_reducible rfl)
            try simp only [Act.put, List.setIfInBounds_toArray, List.set_cons_zero, List.set_cons_succ]
            refine wpAnyH_take (i := 11) (oi := ⟨some 126, _, _, _, _, _⟩) (v := ?_) rfl (by kernel_rfl) (by kernel_rfl) (by kernel_rfl) (fun _ _ _ h => h) (Or.inl ⟨by rfl, ?_⟩) (by assumption) ?_
            rotate_left
            focus (intro w hSw; (try dsimp only at hSw); go_simp; try with_reducible rfl)
            try simp only [Act.put, List.setIfInBounds_toArray, List.set_cons_zero, List.set_cons_succ]
            refine wpAnyH_take (i := 13) (oi := ⟨some 128, _, _, _, _, _⟩) (v := ?_) rfl (by kernel_rfl) (by kernel_rfl) (by kernel_rfl) (fun _ _ _ h => h) (Or.inl ⟨by rfl, ?_⟩) (by assumption) ?_
            rotate_left
            focus (intro w hSw; (try dsimp only at hSw); go_simp; try with_reducible rfl)
            try simp only [Act.put, List.setIfInBounds_toArray, List.set_cons_zero, List.set_cons_succ]
            refine wpAnyH_take (i := 14) (oi := ⟨some 129, _, _, _, _, _⟩) (v := ?_) rfl (by kernel_rfl) (by kernel_rfl) (by kernel_rfl) (fun _ _ _ h => h) (Or.inl ⟨by rfl, ?_⟩) (by assumption) ?_
            rotate_left
            focus (intro w hSw; (try dsimp only at hSw); go_simp; try with_reducible rfl)
            try simp only [Act.put, List.setIfInBounds_toArray, List.set_cons_zero, List.set_cons_succ]
            refine wpAnyH_take (i := 15) (oi := ⟨some 130, _, _, _, _, _⟩) (v := ?_) rfl (by kernel_rfl) (by kernel_rfl) (by kernel_rfl) (fun _ _ _ h => h) (Or.inl ⟨by rfl, ?_⟩) (by assumption) ?_
            rotate_left
            focus (intro w hSw; (try dsimp only at hSw); go_simp; try with_reducible rfl)
            try simp only [Act.put, List.setIfInBounds_toArray, List.set_cons_zero, List.set_cons_succ]
            refine wpAnyH_ready (rs := [12]) (by kernel_rfl) (by simp) ?_
            refine AllReadyH.cons (o := ⟨some 127, _, _, _, _, _⟩) rfl (fun K hK => ?_) AllReadyH.nil
            go_simp
            go_at_call 15; refine (MC.out _ (by assumption)).mono ?_; rintro e wq ⟨rfl, rfl⟩
            refine hK.out _ _ (by assumption) (fun hHeld => ?_)
            clear hK K
            try simp only [Act.put, List.setIfInBounds_toArray, List.set_cons_zero, List.set_cons_succ]
            refine wpAnyH_take (i := 16) (oi := ⟨some 131, _, _, _, _, _⟩) (v := ?_) rfl (by kernel_rfl) (by kernel_rfl) (by kernel_rfl) (fun _ _ _ h => h) (Or.inl ⟨by rfl, ?_⟩) (by assumption) ?_
            rotate_left
            focus (intro w hSw; (try dsimp only at hSw); go_simp; try with_reducible rfl)
            try simp only [Act.put, List.setIfInBounds_toArray, List.set_cons_zero, List.set_cons_succ]
            refine wpAnyH_take (i := 17) (oi := ⟨some 132, _, _, _, _, _⟩) (v := ?_) rfl (by kernel_rfl) (by kernel_rfl) (by kernel_rfl) (fun _ _ _ h => h) (Or.inl ⟨by rfl, ?_⟩) (by assumption) ?_
            rotate_left
            focus (intro w hSw; (try dsimp only at hSw); go_simp; try with_reducible rfl)
            try simp only [Act.put, List.setIfInBounds_toArray, List.set_cons_zero, List.set_cons_succ]
            refine wpAnyH_done (by kernel_rfl) ?_ _
            have KT := Lib.hid (KS.out.below ((Below.refl wx.heap.size wx).drew))
            clear MC hw0 KS
            go_wp2
            go_loopw [135] (fun i wi => ∃ z : Nat, z ≤ n ∧ i = .int .i64 z ∧ Hid (Kp w x q g gw n P per wi (k + 1) s' M' p1 true)) (fun i _ => n - (intOf i).toNat)
            case atStart => exact ⟨0, Nat.zero_le _, rfl, KT⟩
            case round =>
              obtain ⟨z, hz, rfl, KI⟩ := hrel
              clear KT
              by_cases hzl : z < n
              · have lw := KI.out.wt.load hzl
                have h8 : (thold s' n P M' z).length = 8 := KI.out.tok.l.ok.line _
                obtain ⟨y, hy⟩ : ∃ y, thold s' n P M' z = y := ⟨_, rfl⟩
                rw [hy] at lw h8
                have EY := Lib.hid hy
                clear hy
                obtain ⟨W1, hW1, H1⟩ := boxed1 wr h8
                have KJ := Lib.hid (KI.out.below H1.out.2)
                have i6 : (0 : Int) ≤ (z : Int) := by omega
                have i7 : (z : Int) < (n : Int) := by omega
                have hz40 : z < 40 := by have := HB.out; omega
                go_wp2_with fail
                refine (tget_is EY.out KJ.out.tok (by have := HB.out; omega) hzl KJ.out.tq KJ.out.lq KJ.out.nm).mono ?_; rintro e w5 ⟨rfl, hb⟩
                obtain ⟨W2, hW2, H2⟩ := boxed1 w5 h8
                have KM := Lib.hid ((KJ.out.below hb).below H2.out.2)
                have l17 := ((H1.out.1.below hb).below H2.out.2).load
                have l18 := H2.out.1.load
                clear hb lw
                go_wp2
                exact ⟨⟨z + 1, by omega, by go_num, KM⟩, by simp [intOf]; omega⟩
              · obtain rfl : z = n := by omega
                go_wp2
                exact ⟨⟨k + 1, p1, true, by omega, by go_num, rfl, rfl, Lib.hid ⟨_, _, KI.out⟩⟩, by simp [intOf]; omega⟩
          · have MC := Lib.hid (fun (w' : World) (hb : Below wx.heap.size wx w') => tmv_is (M := M') KS.out.tok (KS.out.tq.below hb) (KS.out.nm.below hb))
            have i20 : ¬ (M' : Int) > (mm : Int) := by have := KS.out.m; have := EMM.out; omega
            have i21 : ¬ mm < M' := by have := KS.out.m; have := EMM.out; omega
            have hw0 : Below wx.heap.size wx wx := Below.refl _ _
            go_wp2
            refine wp_region_held_drew (S := fun w' => Below wx.heap.size wx w') (by kernel_rfl) ((Below.refl _ _).drew) (fun hHeld => ?_)
            refine wpAnyH_take (i := 0) (oi := ⟨some 115, _, _, _, _, _⟩) (v := ?_) rfl (by kernel_rfl) (by kernel_rfl) (by kernel_rfl) (fun _ _ _ h => h) (Or.inl ⟨by rfl, ?_⟩) (by assumption) ?_
            rotate_left
            focus (intro w hSw; (try dsimp only at hSw); go_simp; try with_reducible rfl)
            try simp only [Act.put, List.setIfInBounds_toArray, List.set_cons_zero, List.set_cons_succ]
            refine wpAnyH_take (i := 1) (oi := ⟨some 116, _, _, _, _, _⟩) (v := ?_) rfl (by kernel_rfl) (by kernel_rfl) (by kernel_rfl) (fun _ _ _ h => h) (Or.inl ⟨by rfl, ?_⟩) (by assumption) ?_
            rotate_left
            focus (intro w hSw; (try dsimp only at hSw); go_simp; try with_reducible rfl)
            try simp only [Act.put, List.setIfInBounds_toArray, List.set_cons_zero, List.set_cons_succ]
            refine wpAnyH_take (i := 2) (oi := ⟨some 117, _, _, _, _, _⟩) (v := ?_) rfl (by kernel_rfl) (by kernel_rfl) (by kernel_rfl) (fun _ _ _ h => h) (Or.inl ⟨by rfl, ?_⟩) (by assumption) ?_
            rotate_left
            focus (intro w hSw; (try dsimp only at hSw); go_simp; try with_reducible rfl)
            try simp only [Act.put, List.setIfInBounds_toArray, List.set_cons_zero, List.set_cons_succ]
            refine wpAnyH_take (i := 3) (oi := ⟨some 118, _, _, _, _, _⟩) (v := undef) rfl (by kernel_rfl) (by kernel_rfl) (by kernel_rfl) (fun _ _ _ h => h) (Or.inr ⟨by rfl, rfl⟩) (by assumption) ?_
            try simp only [Act.put, List.setIfInBounds_toArray, List.set_cons_zero, List.set_cons_succ]
            refine wpAnyH_take (i := 4) (oi := ⟨some 119, _, _, _, _, _⟩) (v := undef) rfl (by kernel_rfl) (by kernel_rfl) (by kernel_rfl) (fun _ _ _ h => h) (Or.inr ⟨by rfl, rfl⟩) (by assumption) ?_
            try simp only [Act.put, List.setIfInBounds_toArray, List.set_cons_zero, List.set_cons_succ]
            refine wpAnyH_take (i := 5) (oi := ⟨some 120, _, _, _, _, _⟩) (v := undef) rfl (by kernel_rfl) (by kernel_rfl) (by kernel_rfl) (fun _ _ _ h => h) (Or.inr ⟨by rfl, rfl⟩) (by assumption) ?_
            try simp only [Act.put, List.setIfInBounds_toArray, List.set_cons_zero, List.set_cons_succ]
            refine wpAnyH_take (i := 6) (oi := ⟨some 121, _, _, _, _, _⟩) (v := undef) rfl (by kernel_rfl) (by kernel_rfl) (by kernel_rfl) (fun _ _ _ h => h) (Or.inr ⟨by rfl, rfl⟩) (by assumption) ?_
            try simp only [Act.put, List.setIfInBounds_toArray, List.set_cons_zero, List.set_cons_succ]
            refine wpAnyH_take (i := 7) (oi := ⟨some 122, _, _, _, _, _⟩) (v := undef) rfl (by kernel_rfl) (by kernel_rfl) (by kernel_rfl) (fun _ _ _ h => h) (Or.inr ⟨by rfl, rfl⟩) (by assumption) ?_
            try simp only [Act.put, List.setIfInBounds_toArray, List.set_cons_zero, List.set_cons_succ]
            refine wpAnyH_take (i := 8) (oi := ⟨some 123, _, _, _, _, _⟩) (v := undef) rfl (by kernel_rfl) (by kernel_rfl) (by kernel_rfl) (fun _ _ _ h => h) (Or.inr ⟨by rfl, rfl⟩) (by assumption) ?_
            try simp only [Act.put, List.setIfInBounds_toArray, List.set_cons_zero, List.set_cons_succ]
            refine wpAnyH_take (i := 9) (oi := ⟨some 124, _, _, _, _, _⟩) (v := ?_) rfl (by kernel_rfl) (by kernel_rfl) (by kernel_rfl) (fun _ _ _ h => h) (Or.inl ⟨by rfl, ?_⟩) (by assumption) ?_
            rotate_left
            focus (intro w hSw; (try dsimp only at hSw); go_simp; try with_reducible rfl)
            try simp only [Act.put, List.setIfInBounds_toArray, List.set_cons_zero, List.set_cons_succ]
            refine wpAnyH_take (i := 10) (oi := ⟨some 125, _, _, _, _, _⟩) (v := ?_) rfl (by kernel_rfl) (by kernel_rfl) (by kernel_rfl) (fun _ _ _ h => h) (Or.inl ⟨by rfl, ?_⟩) (by assumption) ?_
            rotate_left
            focus (intro w hSw; (try dsimp only at hSw); go_simp; try with_reducible rfl)
            try simp only [Act.put, List.setIfInBounds_toArray, List.set_cons_zero, List.set_cons_succ]
            refine wpAnyH_take (i := 11) (oi := ⟨some 126, _, _, _, _, _⟩) (v := ?_) rfl (by kernel_rfl) (by kernel_rfl) (by kernel_rfl) (fun _ _ _ h => h) (Or.inl ⟨by rfl, ?_⟩) (by assumption) ?_
            rotate_left
            focus (intro w hSw; (try dsimp only at hSw); go_simp; try with_reducible rfl)
            try simp only [Act.put, List.setIfInBounds_toArray, List.set_cons_zero, List.set_cons_succ]
            refine wpAnyH_take (i := 13) (oi := ⟨some 128, _, _, _, _, _⟩) (v := ?_) rfl (by kernel_rfl) (by kernel_rfl) (by kernel_rfl) (fun _ _ _ h => h) (Or.inl ⟨by rfl, ?_⟩) (by assumption) ?_
            rotate_left
            focus (intro w hSw; (try dsimp only at hSw); go_simp; try with_reducible rfl)
            try simp only [Act.put, List.setIfInBounds_toArray, List.set_cons_zero, List.set_cons_succ]
            refine wpAnyH_take (i := 14) (oi := ⟨some 129, _, _, _, _, _⟩) (v := ?_) rfl (by kernel_rfl) (by kernel_rfl) (by kernel_rfl) (fun _ _ _ h => h) (Or.inl ⟨by rfl, ?_⟩) (by assumption) ?_
            rotate_left
            focus (intro w hSw; (try dsimp only at hSw); go_simp; try with_reducible rfl)
            try simp only [Act.put, List.setIfInBounds_toArray, List.set_cons_zero, List.set_cons_succ]
            refine wpAnyH_take (i := 15) (oi := ⟨some 130, _, _, _, _, _⟩) (v := ?_) rfl (by kernel_rfl) (by kernel_rfl) (by kernel_rfl) (fun _ _ _ h => h) (Or.inl ⟨by rfl, ?_⟩) (by assumption) ?_
            rotate_left
            focus (intro w hSw; (try dsimp only at hSw); go_simp; try with_reducible rfl)
            try simp only [Act.put, List.setIfInBounds_toArray, List.set_cons_zero, List.set_cons_succ]
            refine wpAnyH_ready (rs := [12]) (by kernel_rfl) (by simp) ?_
            refine AllReadyH.cons (o := ⟨some 127, _, _, _, _, _⟩) rfl (fun K hK => ?_) AllReadyH.nil
            go_simp
            go_at_call 15; refine (MC.out _ (by assumption)).mono ?_; rintro e wq ⟨rfl, rfl⟩
            refine hK.out _ _ (by assumption) (fun hHeld => ?_)
            clear hK K
            try simp only [Act.put, List.setIfInBounds_toArray, List.set_cons_zero, List.set_cons_succ]
            refine wpAnyH_take (i := 16) (oi := ⟨some 131, _, _, _, _, _⟩) (v := ?_) rfl (by kernel_rfl) (by kernel_rfl) (by kernel_rfl) (fun _ _ _ h => h) (Or.inl ⟨by rfl, ?_⟩) (by assumption) ?_
            rotate_left
            focus (intro w hSw; (try dsimp only at hSw); go_simp; try with_reducible rfl)
            try simp only [Act.put, List.setIfInBounds_toArray, List.set_cons_zero, List.set_cons_succ]
            refine wpAnyH_take (i := 17) (oi := ⟨some 132, _, _, _, _, _⟩) (v := ?_) rfl (by kernel_rfl) (by kernel_rfl) (by kernel_rfl) (fun _ _ _ h => h) (Or.inl ⟨by rfl, ?_⟩) (by assumption) ?_
            rotate_left
            focus (intro w hSw; (try dsimp only at hSw); go_simp; try with_reducible rfl)
            try simp only [Act.put, List.setIfInBounds_toArray, List.set_cons_zero, List.set_cons_succ]
            refine wpAnyH_done (by kernel_rfl) ?_ _
            have KT := Lib.hid (KS.out.below ((Below.refl wx.heap.size wx).drew))
            clear MC hw0 KS
            go_wp2
            go_loopw [135] (fun i wi => ∃ z : Nat, z ≤ n ∧ i = .int .i64 z ∧ Hid (Kp w x q g gw n P per wi (k + 1) s' M' p1 true)) (fun i _ => n - (intOf i).toNat)
            case atStart => exact ⟨0, Nat.zero_le _, rfl, KT⟩
            case round =>
              obtain ⟨z, hz, rfl, KI⟩ := hrel
              clear KT
              by_cases hzl : z < n
              · have lw := KI.out.wt.load hzl
                have h8 : (thold s' n P M' z).length = 8 := KI.out.tok.l.ok.line _
                obtain ⟨y, hy⟩ : ∃ y, thold s' n P M' z = y := ⟨_, rfl⟩
                rw [hy] at lw h8
                have EY := Lib.hid hy
                clear hy
                obtain ⟨W1, hW1, H1⟩ := boxed1 wr h8
                have KJ := Lib.hid (KI.out.below H1.out.2)
                have i6 : (0 : Int) ≤ (z : Int) := by omega
                have i7 : (z : Int) < (n : Int) := by omega
                have hz40 : z < 40 := by have := HB.out; omega
                go_wp2_with fail
                refine (tget_is EY.out KJ.out.tok (by have := HB.out; omega) hzl KJ.out.tq KJ.out.lq KJ.out.nm).mono ?_; rintro e w5 ⟨rfl, hb⟩
                obtain ⟨W2, hW2, H2⟩ := boxed1 w5 h8
                have KM := Lib.hid ((KJ.out.below hb).below H2.out.2)
                have l17 := ((H1.out.1.below hb).below H2.out.2).load
                have l18 := H2.out.1.load
                clear hb lw
                go_wp2
                exact ⟨⟨z + 1, by omega, by go_num, KM⟩, by simp [intOf]; omega⟩
              · obtain rfl : z = n := by omega
                go_wp2
                exact ⟨⟨k + 1, p1, true, by omega, by go_num, rfl, rfl, Lib.hid ⟨_, _, KI.out⟩⟩, by simp [intOf]; omega⟩
        · rw [KB.out.comes] at hcm; cases hcm
      · by_cases hn0 : ci < 0
        · have TC := Lib.hid (tput_no (d := cl) KB.out.tq ha)
          clear ha
          go_wp2_with fail
          refine (TC.out).mono ?_; rintro e w3 ⟨rfl, hb⟩
          have PV3 := Lib.hid (PV1.out.below hb)
          have KS := Lib.hid (KB.out.below hb).more
          have c4 := PV3.out.slot
          dsimp only at c4
          clear hb c3 l3
          go_wp2
          exact ⟨⟨k + 1, p, b, by omega, by go_num, rfl, rfl, Lib.hid ⟨_, _, KS.out⟩⟩, by simp [intOf]; omega⟩
        · have hge : ci ≥ (n : Int) := by omega
          have TC := Lib.hid (tput_no (d := cl) KB.out.tq ha)
          clear ha
          go_wp2_with fail
          refine (TC.out).mono ?_; rintro e w3 ⟨rfl, hb⟩
          have PV3 := Lib.hid (PV1.out.below hb)
          have KS := Lib.hid (KB.out.below hb).more
          have c4 := PV3.out.slot
          dsimp only at c4
          clear hb c3 l3
          go_wp2
          exact ⟨⟨k + 1, p, b, by omega, by go_num, rfl, rfl, Lib.hid ⟨_, _, KS.out⟩⟩, by simp [intOf]; omega⟩
    · obtain rfl : k = len := by omega
      have B5 := Lib.hid HK0.out.bel
      go_wp2_with fail
      refine (awake_any _).mono ?_; rintro e w4 ⟨rfl, hb⟩
      have B6 := Lib.hid (below_base B5.out B5.out.size hb)
      go_wp2
      go_ret
      exact ⟨rfl, B6.out⟩

theorem walk (a0 a1 a2 : Int) (lim : List Int) (lv : Value) (l : List Pt) (v : Value) (w : World) (_ : (Lit.int .i64 a0).wf = true) (_ : (Lit.int .i64 a1).wf = true) (_ : (Lit.int .i64 a2).wf = true) (hl : IntsIn .i64 w lv lim) (h : RP w v l) :
    Calls Try.prog 3 #[.int .i64 a0, .int .i64 a1, .int .i64 a2, lv, v] w fun e w' => e = .returned (.bool true) ∧ Below w.heap.size w w' := by
  by_cases hb : 200 < l.length ∨ 200 < lim.length
  · exact small a0 a1 a2 lim l lv v w hl h hb
  · exact main a0 a1 a2 lim l lv v w hl h (by omega) (by omega)

set_option maxRecDepth 100000 in
theorem lifted (os : Os) (started : os.Started) (H : Type) (enc : TypeId × Value → H) :
    ReturnsInHanded {} Try.checked os 3 .any (Rows.turnKeepsSpec.pre6 enc Try.prog Try.f3 Rows.turnKeepsRow.domain false) (Rows.turnKeepsSpec.post enc Try.prog Try.f3 false true false false) := by
  refine returnsInHanded_of_change (C := Try.checked) own started (by kernel_rfl) Try.func3
    (ChangeSpec.witness6 (enc := enc) (C := Try.checked) false ⟨#[], #[.int .i64 0, .int .i64 0, .int .i64 0, .slice none 0 0, .slice none 0 0], []⟩ 8 (by kernel_rfl) (by kernel_rfl) (by kernel_rfl) (by kernel_rfl)) ?_
  intro W base args ds gs before hval0 hW hcnd _
  have hval : ∀ (j : Nat) t v, Try.f3.params[j]? = some t → args[j]? = some v → Value.okWide Try.prog W .any base t v := hval0
  have hW' := hW
  have hlt := hW.lt
  obtain ⟨p, q, hA0, hV, hpq, hfz, hnd⟩ := hW
  have hA : DataW.TrodAll enc Try.prog W 0 (fun _ => true) true Try.f3.params.toList args.toList ds p := hA0
  rw [Try.params3] at hA hval
  obtain ⟨v0, vs0, d0, ds0, p0, q0, hargs, rfl, hp, h0, r0⟩ := trodAll_cons hA
  obtain ⟨v1, vs1, d1, ds1, p1, q1, rfl, rfl, rfl, h1, r1⟩ := trodAll_cons r0
  obtain ⟨v2, vs2, d2, ds2, p2, q2, rfl, rfl, rfl, h2, r2⟩ := trodAll_cons r1
  obtain ⟨v3, vs3, d3, ds3, p3, q3, rfl, rfl, rfl, h3, r3⟩ := trodAll_cons r2
  obtain ⟨v4, vs4, d4, ds4, p4, q4, rfl, rfl, rfl, h4, r4⟩ := trodAll_cons r3
  obtain ⟨rfl, rfl, rfl⟩ := trodAll_nil r4
  obtain rfl : args = #[v0, v1, v2, v3, v4] := by cases args; simp_all
  obtain ⟨rfl, rfl⟩ := trodVars_none hV
  have hlt' : ∀ x ∈ before, x.block < W.heap.size := fun x hx => hlt x hx
  obtain ⟨a0, rfl, rfl, rfl, w0⟩ := open_int Try.underlying3 (hval 0 3 v0 rfl rfl) h0
  obtain ⟨a1, rfl, rfl, rfl, w1⟩ := open_int Try.underlying3 (hval 1 3 v1 rfl rfl) h1
  obtain ⟨a2, rfl, rfl, rfl, w2⟩ := open_int Try.underlying3 (hval 2 3 v2 rfl rfl) h2
  obtain ⟨l3, w3⟩ := ints_in Try.underlying22 Try.underlying3 (by kernel_rfl) (hval 3 22 v3 rfl rfl) (fun x hx => hlt' x (by rw [hpq, hp]; simp [hx])) h3
  obtain ⟨l4, w4⟩ := puts_in (hval 4 23 v4 rfl rfl) h4
  refine (walk a0 a1 a2 l3 v3 l4 v4 W w0 w1 w2 w3 w4).mono fun e W' ⟨he, hb⟩ => ?_
  subst he
  exact ⟨_, rfl, law_post rfl (by kernel_rfl) hW' (by rw [Try.params3]; intro t ht; simp only [List.mem_cons, List.not_mem_nil, or_false] at ht; (repeat' (first | (rcases ht with rfl | ht) | subst ht)) <;> exact ⟨by kernel_rfl, of_decide_eq_true (by kernel_rfl)⟩) rfl hb⟩

theorem over : Rows.turnKeepsRow.holds Try.pinned (OpenSpec.ofChange Rows.turnKeepsSpec) :=
  OpenClaim.holds_of_wide 3 Try.f3 rfl rfl rfl rfl rfl rfl rfl ⟨rfl, rfl, rfl, rfl, rfl⟩ rfl rfl rfl rfl rfl (by kernel_rfl) Try.func3 (by kernel_rfl)
    (of_decide_eq_true (by kernel_rfl)) (by unfold Func.isWrapper; first | (rw [if_pos (by decide +kernel)]; kernel_rfl) | (rw [if_neg (by decide +kernel)]; exact ⟨rfl, rfl⟩))
    (fun os started H enc _ => lifted os started H enc)

theorem proved : Rows.TurnKeepsSaid := over
end Go.Proofs.Ytjchmkgkibiadaa.turnKeeps
