/-
  Whenever the power goes in a Put of lines that go round, its line is what it was, or a mix with what was put; all others are what they were, whatever moves; found anew it is the same. No conditions.
-/
import Derived.Test.YtjchmkgkibiadaaTnw
import Derived.Test.YtjchmkgkibiadaaTwl
import Derived.Test.YtjchmkgkibiadaaPt
import Derived.Test.YtjchmkgkibiadaaWt
namespace Go.Proofs.Ytjchmkgkibiadaa.turnCut
open Go.Proofs.Ytjchmkgkibiadaa Go.ChangeShapes Go.WideShapes Go.ChangeAt Go.RowKit

theorem td_le (per p : Nat) : td per p ≤ 1 := by unfold td; split <;> omega
/-- the lines and what they must hold, behind k Puts (p of them came so far); the Put that is to come -/
structure Kp (w : World) (x q g gw b0 : Nat) (c0 : Pt) (n P per : Nat) (wr : World) (k : Nat) (s : Nv) (M p : Nat) : Prop where
  nm : Nm wr g s
  lq : Lq wr q g (n + 1) P
  tq : Tq wr x g q n per (p % per)
  tok : TOk s n P M
  comes : s.comes = false
  wt : Wt wr gw n (thold s n P M)
  pv : Pv wr b0 c0
  bel : Below w.heap.size w wr
  c : s.c ≤ 81 * k
  m : M ≤ k
theorem Kp.below {w : World} {x q g gw b0 : Nat} {c0 : Pt} {n P per : Nat} {wr wr' : World} {k : Nat} {s : Nv} {M p : Nat} (h : Kp w x q g gw b0 c0 n P per wr k s M p) (hb : Below wr.heap.size wr wr') : Kp w x q g gw b0 c0 n P per wr' k s M p :=
  ⟨h.nm.below hb, h.lq.below hb, h.tq.below hb, h.tok, h.comes, h.wt.below hb, h.pv.below hb, below_base h.bel h.bel.size hb, h.c, h.m⟩
theorem Kp.more {w : World} {x q g gw b0 : Nat} {c0 : Pt} {n P per : Nat} {wr : World} {k : Nat} {s : Nv} {M p : Nat} (h : Kp w x q g gw b0 c0 n P per wr k s M p) : Kp w x q g gw b0 c0 n P per wr (k + 1) s M p :=
  ⟨h.nm, h.lq, h.tq, h.tok, h.comes, h.wt, h.pv, h.bel, by have := h.c; push_cast; omega, by have := h.m; omega⟩

/-- behind the cut: s2 is what is read, s what was held -/
structure Kd (w : World) (x q g gw b0 : Nat) (c0 : Pt) (n P per : Nat) (wr : World) (s : Nv) (M : Nat) (s2 : Nv) (M' : Nat) : Prop where
  nm : Nm wr g s2
  lq : Lq wr q g (n + 1) P
  tq : Tq wr x g q n per 0
  tok : TOk s2 n P M'
  wt : Wt wr gw n (thold s n P M)
  pv : Pv wr b0 c0
  bel : Below w.heap.size w wr
theorem Kd.below {w : World} {x q g gw b0 : Nat} {c0 : Pt} {n P per : Nat} {wr wr' : World} {s : Nv} {M : Nat} {s2 : Nv} {M' : Nat} (h : Kd w x q g gw b0 c0 n P per wr s M s2 M') (hb : Below wr.heap.size wr wr') : Kd w x q g gw b0 c0 n P per wr' s M s2 M' :=
  ⟨h.nm.below hb, h.lq.below hb, h.tq.below hb, h.tok, h.wt.below hb, h.pv.below hb, below_base h.bel h.bel.size hb⟩

/-- with the cut laid -/
structure Kc (w : World) (q g gw b0 : Nat) (c0 : Pt) (n P : Nat) (wr : World) (s : Nv) (M : Nat) (s1 : Nv) : Prop where
  nm : Nm wr g s1
  lq : Lq wr q g (n + 1) P
  tok : TOk s1 n P M
  wt : Wt wr gw n (thold s n P M)
  pv : Pv wr b0 c0
  bel : Below w.heap.size w wr

/-- a Put that the power may go in, and the power come again -/
theorem cutPut {n P per p M a : Nat} {s : Nv} {d : List Int} (H : TOk s n P M) (hd : d.length = 8) (ha : a < n) (hm : M + 1 < 4611686018427387904) {nn m : Int} (hn : nn ≤ 9223372036854775807) :
    ∃ y s2 M', tput n P per p M a d (s.cutAt nn m) = (y, s2) ∧ TOk (s.cutAt nn m) n P M ∧ TOk s2.power n P M' ∧ M' ≤ M + 1 ∧ (∀ b, b < n → b ≠ a → thold s2.power n P M' b = thold s n P M b) ∧
      ((y = 0 ∧ thold s2.power n P M' a = d) ∨ (y = 3 ∧ thold s2.power n P M' a = thold s n P M a) ∨ y = 2) ∧ could (thold s n P M a) d (thold s2.power n P M' a) = true := by
  have H1 : TOk (s.cutAt nn m) n P M := ⟨⟨H.l.ok.cutAt hn m, H.l.n, H.l.p, H.l.may, H.l.live⟩, H.rg, H.m⟩
  obtain ⟨M', o, _⟩ := tput_out (per := per) (p := p) (a := a) (d := d) H1 (by omega) ha hd hm
  have hh : ∀ b, thold (s.cutAt nn m) n P M b = thold s n P M b := fun b => rfl
  have hp : ∀ (z : Nv) b, thold z.power n P M' b = thold z n P M' b := fun z b => rfl
  have h8 : (thold s n P M a).length = 8 := H.l.ok.line _
  obtain ⟨R, hR⟩ : ∃ R, tput n P per p M a d (s.cutAt nn m) = R := ⟨_, rfl⟩
  rw [hR] at o
  rcases R with ⟨y, s2⟩
  dsimp only at o
  have hM : M' ≤ M + 1 := by have := o.hi; have := td_le per p; omega
  refine ⟨y, s2, M', hR, H1, ⟨⟨o.ok.power, o.nn.trans H1.l.n, H.l.p, o.may, rfl⟩, o.rg, by omega⟩, hM, fun b hb hne => by rw [hp, o.oth b hb hne, hh], ?_, ?_⟩
  · rcases o.own with ⟨h1, _, _, h2⟩ | ⟨h1, _, _, h2⟩ | ⟨h1, _⟩
    · exact .inl ⟨h1, by rw [hp]; exact h2⟩
    · exact .inr (.inl ⟨h1, by rw [hp]; exact h2⟩)
    · exact .inr (.inr h1)
  · rcases o.own with ⟨h1, _, _, h2⟩ | ⟨h1, _, _, h2⟩ | ⟨_, _, h3⟩
    · rw [hp, h2]; exact could_new _ _ (h8.trans hd.symm)
    · rw [hp, h2]; exact could_old _ _ (h8.trans hd.symm)
    · rw [hp]; exact h3

set_option maxRecDepth 100000 in
set_option maxHeartbeats 1000000 in
theorem small (a0 a1 a2 a6 a7 : Int) (c0 : Pt) (lim : List Int) (l : List Pt) (lv v : Value) (w : World) (hl : IntsIn .i64 w lv lim) (h : RP w v l) (hc0 : c0.Wf) (hb : 60 < l.length ∨ 200 < lim.length) :
    Calls Try.prog 4 #[.int .i64 a0, .int .i64 a1, .int .i64 a2, lv, v, .agg (pc c0), .int .i64 a6, .int .i64 a7] w fun e w' => e = .returned (.bool true) ∧ Below w.heap.size w w' := by
  obtain ⟨p, cap, rfl, h1, h2⟩ := rp_shape h
  obtain ⟨p2, cap2, rfl, h3, h4, _⟩ := hl
  unfold maxLen at h2 h4
  have hl8 := hc0.len
  have B0 := Lib.hid (bal (o := .cells (pc c0) 35) (Below.refl w.heap.size w))
  by_cases hx : 60 < l.length
  · have i1 : (60 : Int) < (l.length : Int) := by omega
    clear hb h
    generalize l.length = n at *
    go_enter Try.func4, Try.ntmps4
    go_wp2_with fail
    refine (awake_any _).mono ?_; rintro e w' ⟨rfl, hb⟩
    have B1 := Lib.hid (below_more B0.out hb)
    go_wp2
    go_ret
    exact ⟨rfl, B1.out⟩
  · have i1 : ¬ (60 : Int) < (l.length : Int) := by omega
    have i2 : (200 : Int) < (lim.length : Int) := by omega
    clear hb h
    generalize l.length = n at *
    generalize lim.length = n2 at *
    go_enter Try.func4, Try.ntmps4
    go_wp2_with fail
    refine (awake_any _).mono ?_; rintro e w' ⟨rfl, hb⟩
    have B1 := Lib.hid (below_more B0.out hb)
    go_wp2
    go_ret
    exact ⟨rfl, B1.out⟩

set_option maxRecDepth 100000 in
set_option maxHeartbeats 8000000 in
theorem main (a0 a1 a2 a6 a7 : Int) (c0 : Pt) (lim : List Int) (l : List Pt) (lv v : Value) (w : World) (hl : IntsIn .i64 w lv lim) (h : RP w v l) (hc0 : c0.Wf) (hb1 : l.length ≤ 60) (hb2 : lim.length ≤ 200) :
    Calls Try.prog 4 #[.int .i64 a0, .int .i64 a1, .int .i64 a2, lv, v, .agg (pc c0), .int .i64 a6, .int .i64 a7] w fun e w' => e = .returned (.bool true) ∧ Below w.heap.size w w' := by
  obtain ⟨u0, hu0, _⟩ := u64_nat a0
  obtain ⟨m, hm⟩ : ∃ m, m = u0 % 20 := ⟨_, rfl⟩
  have t0 : (u0 : Int).tmod 20 = (m : Int) := by rw [hm]; exact tmod_nat u0 20
  obtain ⟨n, hn⟩ : ∃ n : Nat, n = m + 1 := ⟨_, rfl⟩
  have k0 : IntKind.i64.wrap (m : Int) = m := i64_nat _ (by omega)
  have k1 : IntKind.i64.wrap (1 + (m : Int)) = (n : Int) := by rw [show 1 + (m : Int) = (n : Int) by omega]; exact i64_nat _ (by omega)
  obtain ⟨u1, hu1, _⟩ := u64_nat a1
  obtain ⟨P, hP⟩ : ∃ P, P = u1 % 17 := ⟨_, rfl⟩
  have t1 : (u1 : Int).tmod 17 = (P : Int) := by rw [hP]; exact tmod_nat u1 17
  have k2 : IntKind.i64.wrap (P : Int) = P := i64_nat _ (by omega)
  obtain ⟨u2, hu2, _⟩ := u64_nat a2
  obtain ⟨m2, hm2⟩ : ∃ m2, m2 = u2 % 5 := ⟨_, rfl⟩
  have t2 : (u2 : Int).tmod 5 = (m2 : Int) := by rw [hm2]; exact tmod_nat u2 5
  obtain ⟨per, hper⟩ : ∃ per : Nat, per = m2 + 1 := ⟨_, rfl⟩
  have k3 : IntKind.i64.wrap (m2 : Int) = m2 := i64_nat _ (by omega)
  have k4 : IntKind.i64.wrap (1 + (m2 : Int)) = (per : Int) := by rw [show 1 + (m2 : Int) = (per : Int) by omega]; exact i64_nat _ (by omega)
  obtain ⟨n1, hn1⟩ : ∃ n1 : Nat, n1 = n + 1 := ⟨_, rfl⟩
  have k5 : IntKind.i64.wrap ((n : Int) + 1) = (n1 : Int) := by rw [show (n : Int) + 1 = (n1 : Int) by omega]; exact i64_nat _ (by omega)
  obtain ⟨N, hN⟩ : ∃ N : Nat, N = n1 + P := ⟨_, rfl⟩
  have k6 : IntKind.i64.wrap ((n1 : Int) + (P : Int)) = (N : Int) := by rw [show (n1 : Int) + (P : Int) = (N : Int) by omega]; exact i64_nat _ (by omega)
  obtain ⟨u6, hu6, _⟩ := u64_nat a6
  obtain ⟨nn, hnn⟩ : ∃ nn, nn = u6 % 10 := ⟨_, rfl⟩
  have t6 : (u6 : Int).tmod 10 = (nn : Int) := by rw [hnn]; exact tmod_nat u6 10
  have k7 : IntKind.i64.wrap (nn : Int) = nn := i64_nat _ (by omega)
  obtain ⟨ux, hux, _⟩ := u64_nat c0.i
  obtain ⟨a, hax⟩ : ∃ a, a = ux % n := ⟨_, rfl⟩
  have tx : (ux : Int).tmod (n : Int) = (a : Int) := by rw [hax]; exact tmod_nat ux n
  have haS0 : a < n := by rw [hax]; exact Nat.mod_lt _ (by omega)
  have k8 : IntKind.u64.wrap (n : Int) = (n : Int) := u64_same (by omega) (by omega)
  have k9 : IntKind.i64.wrap (a : Int) = (a : Int) := i64_nat _ (by omega)
  have z5 : ¬ n = 0 := by omega
  have z6 : ¬ (n : Int) = 0 := by omega
  have HB : Hid (1 ≤ n ∧ n ≤ 20 ∧ P ≤ 16 ∧ 1 ≤ per ∧ per ≤ 5 ∧ N = n + 1 + P ∧ nn < 10) := Lib.hid ⟨by omega, by omega, by omega, by omega, by omega, by omega, by omega⟩
  have haS : Hid (a < n) := Lib.hid haS0
  have R0 := Lib.hid (ri_in hl)
  have HR := Lib.hid h
  have LK := newNv_tok (n := n) (P := P) (by omega) (by omega) (by omega) lim
  rw [show n + 1 + P = N by omega] at LK
  have HK := Lib.hid LK
  have HZ : Hid ((∀ i, zeros = thold (newNv N lim) n P 0 i) ∧ (newNv N lim).c ≤ 81 * 0) := Lib.hid ⟨fun i => rfl, Int.le_refl _⟩
  obtain ⟨pp, cap, rfl, h1, h2⟩ := rp_shape h
  obtain ⟨p2, cap2, rfl, h3, h4, _⟩ := hl
  have i1 : ¬ (60 : Int) < (l.length : Int) := by omega
  have i2 : ¬ (200 : Int) < (lim.length : Int) := by omega
  have hmk := run_make_want n (by omega)
  obtain ⟨len, hlen⟩ : ∃ len, l.length = len := ⟨_, rfl⟩
  obtain ⟨n2, hn2⟩ : ∃ n2, lim.length = n2 := ⟨_, rfl⟩
  have EN := Lib.hid hlen
  have HN200 : Hid (len ≤ 60) := Lib.hid (by omega)
  rw [hlen] at i1 HR ⊢
  rw [hn2] at i2 R0 ⊢
  have hp8 := hc0.len
  obtain ⟨b0, hb0⟩ : ∃ b0, w.heap.size = b0 := ⟨_, rfl⟩
  obtain ⟨W0, hW0⟩ : ∃ W0, w.alloc (.cells (pc c0) 35) = W0 := ⟨_, rfl⟩
  have PV0 := Pv.new w hp8
  have BE0 := bal (o := .cells (pc c0) 35) (Below.refl w.heap.size w)
  rw [hW0, hb0] at PV0
  rw [hW0] at BE0
  have PV00 := Lib.hid PV0
  have B0 := Lib.hid BE0
  have RI0 := Lib.hid (ri_below R0.out BE0)
  have HB0 := Lib.hid hb0
  clear hm hn hP hm2 hper hn1 hN hnn hax haS0 h h1 h2 h3 h4 hb1 hb2 hlen hn2 LK hc0 PV0 BE0
  go_enter Try.func4, Try.ntmps4
  go_wp2_with fail
  refine (new_yes N _ _ W0 (by have := HB.out; omega) (by have := HB.out; omega) RI0.out).mono ?_; rintro e w1 ⟨g, rfl, hg, hN, hb⟩
  have G1 : Hid (w.heap.size ≤ g) := Lib.hid (Nat.le_trans B0.out.size hg)
  have PV1 := Lib.hid (PV00.out.below hb)
  have HBG : Hid (b0 ≠ g) := Lib.hid (by have := PV00.out.lt; omega)
  have N1 := Lib.hid hN
  have B1 := Lib.hid (below_more B0.out hb)
  clear hg hN hb
  go_wp2_with fail
  refine (tnew_yes (per := per) HK.out (by have := HB.out; omega) (by have := HB.out; omega) (by have := HB.out; omega) (by have := HB.out; omega) (by decide) N1.out).mono ?_; rintro e w2 ⟨x, q, rfl, hx, hq, hxq, hQ, hT, hb⟩
  obtain ⟨gw, hgw⟩ : ∃ gw, w2.heap.size = gw := ⟨_, rfl⟩
  have W3 := Wt.new w2 n
  have B3 := below_more B1.out hb
  have XX : Hid (q ≠ g ∧ x ≠ g ∧ x ≠ q ∧ w.heap.size ≤ x ∧ w.heap.size ≤ g ∧ gw ≠ g ∧ gw ≠ x ∧ q ≠ gw ∧ w.heap.size ≤ gw) := Lib.hid ⟨by have := N1.out.lt; omega, by have := N1.out.lt; omega, hxq, Nat.le_trans B1.out.size hx, G1.out, by have := (N1.out.below hb).lt; omega, by have := hT.lt; omega, by have := hQ.lt; omega, by rw [← hgw]; exact B3.size⟩
  have YY : Hid (b0 ≠ g ∧ b0 ≠ x ∧ b0 ≠ gw ∧ q ≠ b0) := Lib.hid ⟨HBG.out, by have := PV1.out.lt; omega, by have := (PV1.out.below hb).lt; omega, by have := PV1.out.lt; omega⟩
  have KP : Hid (Kp w x q g gw b0 c0 n P per (w2.alloc (.cells (tab (n * 8) (wl fun _ => zeros)) 33)) 0 (newNv N lim) 0 0) :=
    Lib.hid ⟨(N1.out.below hb).alloc _, hQ.alloc _, by rw [Nat.zero_mod]; exact hT.alloc _, HK.out, rfl, by rw [← hgw]; exact W3.as fun i _ => (HZ.out.1 i).symm, (PV1.out.below hb).alloc _, bal B3, HZ.out.2, Nat.le_refl _⟩
  have hmk2 := hmk w2
  clear hmk
  rw [hgw] at hmk2
  clear hx hq hxq hQ hT hb W3 B3 t0 t1 t2 k0 k1 k2 k3 k4 k5 k6 hgw
  go_wp2
  go_loopw [68] (fun i wr => ∃ k : Nat, k ≤ len ∧ i = .int .i64 k ∧ Hid (∃ s M p, Kp w x q g gw b0 c0 n P per wr k s M p)) (fun i _ => len - (intOf i).toNat)
  case atStart => exact ⟨0, Nat.zero_le _, rfl, Lib.hid ⟨_, _, _, KP.out⟩⟩
  case round =>
    obtain ⟨k, hk, rfl, H⟩ := hrel
    obtain ⟨s, M, p, hs⟩ := H.out
    have HK0 := Lib.hid hs
    have MB : Hid (M ≤ 60 ∧ p % per < 5) := Lib.hid ⟨by have := hs.m; have := HN200.out; omega, by have := Nat.mod_lt p (show per > 0 by have := HB.out; omega); have := HB.out; omega⟩
    clear hs H KP hmk2
    by_cases hlt : k < len
    · have hRr := rp_below HR.out HK0.out.bel
      obtain ⟨bb, off, rfl, hbb, hld, hwf⟩ := rp_at hRr (k := k) (by rw [EN.out]; exact hlt)
      obtain ⟨c, hc⟩ : ∃ c, l.getD k default = c := ⟨_, rfl⟩
      rw [hc] at hld hwf
      have hci := hwf.len
      rcases c with ⟨ci, cl⟩
      obtain ⟨W1, hW1⟩ : ∃ W1, wr.alloc (.cells (pc ⟨ci, cl⟩) 35) = W1 := ⟨_, rfl⟩
      have PV := Pv.new wr hci
      have BA := bal (o := .cells (pc ⟨ci, cl⟩) 35) (Below.refl wr.heap.size wr)
      rw [hW1] at PV BA
      have PV1 := Lib.hid PV
      have KB := Lib.hid (HK0.out.below BA)
      have PB : Hid (¬ wr.heap.size = g ∧ ¬ wr.heap.size = x) := Lib.hid ⟨by have := HK0.out.nm.lt; omega, by have := HK0.out.tq.lt; omega⟩
      have i3 : (0 : Int) ≤ (k : Int) := by omega
      have i4 : (k : Int) < (len : Int) := by omega
      have c3 := PV1.out.slot
      have l3 := PV1.out.line
      clear hc hwf PV BA hRr hbb
      dsimp only at c3 l3
      by_cases ha : 0 ≤ ci ∧ ci < n
      · obtain ⟨a, rfl⟩ : ∃ a : Nat, ci = a := ⟨ci.toNat, by omega⟩
        have has : a < n := by omega
        have i10 : (0 : Int) ≤ (a : Int) := by omega
        have i11 : (a : Int) < (n : Int) := by omega
        obtain ⟨M', o, oc⟩ := tput_out (per := per) (p := p % per) (a := a) (d := cl) KB.out.tok (by have := HB.out; omega) has hci (by have := MB.out; omega)
        obtain ⟨R, hR⟩ : ∃ R, tput n P per (p % per) M a cl s = R := ⟨_, rfl⟩
        rw [hR] at o oc
        rcases R with ⟨y, s'⟩
        dsimp only at o oc
        have TC := Lib.hid (tput_is hR KB.out.tok (by have := HB.out; omega) has hci (by have := MB.out; omega) (by have := MB.out; omega) XX.out.1 XX.out.2.1 XX.out.2.2.1 (by have := KB.out.c; have := HN200.out; omega) KB.out.tq KB.out.lq KB.out.nm)
        have OO := Lib.hid (And.intro o oc)
        have ML : Hid (M' ≤ k + 1) := Lib.hid (by have := o.hi; have := KB.out.m; have := td_le per (p % per); omega)
        have own := o.own
        clear hR ha o oc
        rcases own with ⟨hx, hd, hM, hh⟩ | ⟨hx, hd, hlf, hh⟩ | ⟨_, hcm, _⟩
        · have LS := Lib.hid (OO.out.1.tok KB.out.tok hd (by have := OO.out.1.hi; have := MB.out; have := td_le per (p % per); omega))
          clear hd hM
          have X1 := Lib.hid hh
          subst hx
          clear hh
          go_wp2_with fail
          refine (TC.out).mono ?_; rintro e w3 ⟨rfl, hN, hT, hQ, hC⟩
          have PV3 := Lib.hid (PV1.out.chg hC (by have := PB.out; simpa using this))
          have WT3 := KB.out.wt.chg hC (by simpa using ⟨XX.out.2.2.2.2.2.1, XX.out.2.2.2.2.2.2.1⟩)
          have hst := WT3.store has hci
          have WT4 := (WT3.set_ a hci).as (f' := thold s' n P M') (fun i hi => by
            unfold upd; split
            · rename_i e; subst e; exact X1.out
            · rename_i e; exact OO.out.1.oth i hi e)
          have hC4 := Chg.setCells (D := [gw]) (w := w3) (b := gw) (.inl (by simp)) (cl.map uv) (a * 8) w3 (Chg.refl _ _)
          have B3 := hC.below KB.out.bel KB.out.bel.size (fun k hk => by rcases List.mem_cons.1 hk with rfl | hk; exact XX.out.2.2.2.2.1; rw [List.mem_singleton.1 hk]; exact XX.out.2.2.2.1)
          rw [tp_next (by have := HB.out; omega)] at hT
          obtain ⟨W4, hW4⟩ : ∃ W4, w3.setCells gw (a * 8) (cl.map uv) = W4 := ⟨_, rfl⟩
          rw [hW4] at hst WT4 hC4
          have KS : Hid (Kp w x q g gw b0 c0 n P per W4 (k + 1) s' M' (p + 1)) := Lib.hid ⟨hN.chg hC4 (by simpa using fun e => XX.out.2.2.2.2.2.1 e.symm), hQ.chg hC4 (by simpa using XX.out.2.2.2.2.2.2.2.1), hT.chg hC4 (by simpa using fun e => XX.out.2.2.2.2.2.2.1 e.symm), LS.out, OO.out.1.comes.trans KB.out.comes, WT4, (KB.out.pv.chg hC (by simpa using ⟨YY.out.1, YY.out.2.1⟩)).chg hC4 (by simpa using YY.out.2.2.1), hC4.own B3 XX.out.2.2.2.2.2.2.2.2,
            by have := KB.out.c; have := OO.out.2; push_cast; omega, ML.out⟩
          have c4 := PV3.out.slot
          dsimp only at c4
          have l4 := PV3.out.line
          dsimp only at l4
          clear hN hT hQ hC c3 l3 WT3 WT4 hC4 B3 hW4
          go_wp2
          exact ⟨⟨k + 1, by omega, by go_num, Lib.hid ⟨_, _, _, KS.out⟩⟩, by simp [intOf]; omega⟩
        · have LS := Lib.hid (OO.out.1.tok KB.out.tok hd (by have := OO.out.1.hi; have := MB.out; have := td_le per (p % per); omega))
          clear hd hlf
          have X1 := Lib.hid hh
          subst hx
          clear hh
          go_wp2_with fail
          refine (TC.out).mono ?_; rintro e w3 ⟨rfl, hN, hT, hQ, hC⟩
          have B3 := hC.below KB.out.bel KB.out.bel.size (fun k hk => by rcases List.mem_cons.1 hk with rfl | hk; exact XX.out.2.2.2.2.1; rw [List.mem_singleton.1 hk]; exact XX.out.2.2.2.1)
          rw [tp_next (by have := HB.out; omega)] at hT
          have KS : Hid (Kp w x q g gw b0 c0 n P per w3 (k + 1) s' M' (p + 1)) := Lib.hid ⟨hN, hQ, hT, LS.out, OO.out.1.comes.trans KB.out.comes, (KB.out.wt.chg hC (by simpa using ⟨XX.out.2.2.2.2.2.1, XX.out.2.2.2.2.2.2.1⟩)).as (fun i hi => by
            by_cases e : i = a
            · subst e; exact X1.out
            · exact OO.out.1.oth i hi e), KB.out.pv.chg hC (by simpa using ⟨YY.out.1, YY.out.2.1⟩), B3, by have := KB.out.c; have := OO.out.2; push_cast; omega, ML.out⟩
          clear hN hT hQ hC c3 l3 B3
          go_wp2
          exact ⟨⟨k + 1, by omega, by go_num, Lib.hid ⟨_, _, _, KS.out⟩⟩, by simp [intOf]; omega⟩
        · rw [KB.out.comes] at hcm; cases hcm
      · clear i3 i4
        have TC := Lib.hid (tput_no (d := cl) KB.out.tq ha)
        go_wp2_with fail
        refine (TC.out).mono ?_; rintro e w3 ⟨rfl, hb⟩
        have KS := Lib.hid (KB.out.below hb).more
        clear hb c3 l3
        go_wp2
        exact ⟨⟨k + 1, by omega, by go_num, Lib.hid ⟨_, _, _, KS.out⟩⟩, by simp [intOf]; omega⟩
    · obtain rfl : k = len := by omega
      have hpl8 : c0.l.length = 8 := hp8
      rcases c0 with ⟨pi, pl⟩
      dsimp only at hux hpl8 hp8
      have c1 := HK0.out.pv.slot
      dsimp only at c1
      have f1 := HK0.out.pv.free 0
      have PV5 := HK0.out.pv.set_ (a : Int)
      have CH5 := (Chg.refl [b0] wr).setCell (p := ⟨b0, 0, none⟩) (.inl (by simp)) (.int .i64 (a : Int))
      have BE5 := HK0.out.bel.setCell (p := ⟨b0, 0, none⟩) (Nat.le_of_eq HB0.out) (.int .i64 (a : Int))
      obtain ⟨W4, hW4⟩ : ∃ W4, wr.setCell ⟨b0, 0, none⟩ (.int .i64 (a : Int)) = W4 := ⟨_, rfl⟩
      rw [hW4] at PV5 CH5 BE5
      dsimp only at PV5
      have KL : Hid (Kp w x q g gw b0 ⟨(a : Int), pl⟩ n P per W4 k s M p) := Lib.hid ⟨HK0.out.nm.chg CH5 (by simpa using fun e => YY.out.1 e.symm), HK0.out.lq.chg CH5 (by simpa using YY.out.2.2.2), HK0.out.tq.chg CH5 (by simpa using fun e => YY.out.2.1 e.symm), HK0.out.tok, HK0.out.comes, HK0.out.wt.chg CH5 (by simpa using fun e => YY.out.2.2.1 e.symm), PV5, BE5, HK0.out.c, HK0.out.m⟩
      clear PV5 CH5 BE5
      obtain ⟨y, s2, M', r1, r2, r3, r4, r5, r6, r7⟩ := cutPut (per := per) (p := p % per) (a := a) (nn := (nn : Int)) (m := a7) KL.out.tok hpl8 haS.out (by have := MB.out; omega) (by have := HB.out; omega)
      have HRP := Lib.hid r1
      have HC1 := Lib.hid r2
      have HC2 := Lib.hid r3
      have HCM := Lib.hid r4
      have HC3 := Lib.hid r5
      have HC4 := Lib.hid r7
      have K9 : Hid ((s.cutAt (nn : Int) a7).c + 500 < 4611686018427387904) := Lib.hid (by have := KL.out.c; have := HN200.out; show s.c + 500 < _; omega)
      clear r1 r2 r3 r4 r5 r7 hlt hk
      go_wp2_with fail
      refine (cut_any g s (nn : Int) a7 W4 KL.out.nm).mono ?_; rintro e w5 ⟨rfl, hN, hC⟩
      have T5 : Hid (Tq w5 x g q n per (p % per)) := Lib.hid (KL.out.tq.chg hC (by simpa using XX.out.2.1))
      have KL5 : Hid (Kc w q g gw b0 ⟨(a : Int), pl⟩ n P w5 s M (s.cutAt (nn : Int) a7)) := Lib.hid ⟨hN, KL.out.lq.chg hC (by simpa using XX.out.1), HC1.out, KL.out.wt.chg hC (by simpa using XX.out.2.2.2.2.2.1), KL.out.pv.chg hC (by simpa using YY.out.1), hC.own KL.out.bel XX.out.2.2.2.2.1⟩
      have c5 := KL5.out.pv.slot
      dsimp only at c5
      have l5 := KL5.out.pv.line
      dsimp only at l5
      clear hN hC c1 f1
      rcases r6 with ⟨hx, r6⟩ | ⟨hx, r6⟩ | hx
      · have HX := Lib.hid r6
        subst hx
        clear r6
        have TC := Lib.hid (tput_is HRP.out HC1.out (by have := HB.out; omega) haS.out hpl8 (by have := KL5.out.tok.m; have := MB.out; omega) (by have := MB.out; omega) XX.out.1 XX.out.2.1 XX.out.2.2.1 K9.out T5.out KL5.out.lq KL5.out.nm)
        go_wp2_with fail
        refine (TC.out).mono ?_; rintro e w6 ⟨rfl, hN, hT, hQ, hC⟩
        have N6 := Lib.hid hN
        have W6 := Lib.hid (KL5.out.wt.chg hC (by simpa using ⟨XX.out.2.2.2.2.2.1, XX.out.2.2.2.2.2.2.1⟩))
        have P6 := Lib.hid (KL5.out.pv.chg hC (by simpa using ⟨YY.out.1, YY.out.2.1⟩))
        have B6 := Lib.hid (hC.below KL5.out.bel KL5.out.bel.size (fun k hk => by rcases List.mem_cons.1 hk with rfl | hk; exact XX.out.2.2.2.2.1; rw [List.mem_singleton.1 hk]; exact XX.out.2.2.2.1))
        clear hN hT hQ hC c5 l5
        go_wp2_with fail
        refine (power_any g s2 w6 N6.out).mono ?_; rintro e w7 ⟨rfl, hN, hC⟩
        have N7 := Lib.hid hN
        have W7 := Lib.hid (W6.out.chg hC (by simpa using XX.out.2.2.2.2.2.1))
        have P7 := Lib.hid (P6.out.chg hC (by simpa using YY.out.1))
        have B7 := Lib.hid (hC.own B6.out XX.out.2.2.2.2.1)
        clear hN hC
        go_wp2_with fail
        refine (tnew_yes (per := per) HC2.out (by have := HB.out; omega) (by have := HB.out; omega) (by have := HB.out; omega) (by have := HB.out; omega) (by have := HCM.out; have := MB.out; omega) N7.out).mono ?_; rintro e w8 ⟨x2, q2, rfl, _, _, _, hQ, hT, hb⟩
        have KD : Hid (Kd w x2 q2 g gw b0 ⟨(a : Int), pl⟩ n P per w8 s M s2.power M') := Lib.hid ⟨N7.out.below hb, hQ, hT, HC2.out, W7.out.below hb, P7.out.below hb, below_base B7.out B7.out.size hb⟩
        clear hQ hT hb
        go_wp2
        go_loopw [118] (fun i wi => ∃ j : Nat, j ≤ n ∧ i = .int .i64 j ∧ Hid (Kd w x2 q2 g gw b0 ⟨(a : Int), pl⟩ n P per wi s M s2.power M')) (fun i _ => n - (intOf i).toNat)
        case atStart => exact ⟨0, Nat.zero_le _, rfl, KD⟩
        case round =>
          obtain ⟨j, hj, rfl, KI⟩ := hrel
          clear KD
          by_cases hjl : j < n
          · have lw := KI.out.wt.load hjl
            have h8 := KI.out.wt.2 j hjl
            have h9 : (thold s2.power n P M' j).length = 8 := KI.out.tok.l.ok.line _
            have i6 : (0 : Int) ≤ (j : Int) := by omega
            have i7 : (j : Int) < (n : Int) := by omega
            have hj40 : j < 20 := by have := HB.out.2.1; omega
            by_cases hja : j = a
            · subst hja
              have HCO := HC4.out
              have hz := HX.out
              rw [hz] at HCO
              obtain ⟨y, hy⟩ : ∃ y, thold s n P M j = y := ⟨_, rfl⟩
              rw [hy] at lw h8 HCO
              have EY := Lib.hid hz
              have CO := Lib.hid HCO
              clear hy HCO hz h9
              obtain ⟨W1, hW1, H1⟩ := boxed1 wr h8
              have KJ := Lib.hid (KI.out.below H1.out.2)
              go_wp2_with fail
              refine (tget_is EY.out KJ.out.tok (by have := HB.out; omega) hjl KJ.out.tq KJ.out.lq KJ.out.nm).mono ?_; rintro e w9 ⟨rfl, hb⟩
              obtain ⟨W2, hW2, H2⟩ := boxed1 w9 (a := pl) hpl8
              have KM := Lib.hid ((KJ.out.below hb).below H2.out.2)
              have l17 := ((H1.out.1.below hb).below H2.out.2).load
              have l18 := H2.out.1.load
              have c7 := KM.out.pv.slot
              dsimp only at c7
              have l7 := KM.out.pv.line
              dsimp only at l7
              have hbq9 := Lib.hid hb
              clear hb lw
              go_wp2_with fail
              refine (could_is CO.out W2 h8 hpl8 hpl8).mono ?_; rintro e wA ⟨rfl, hb⟩
              have KO := Lib.hid (KM.out.below hb)
              have lB := (((H1.out.1.below hbq9.out).below H2.out.2).below hb).load
              have lC := (H2.out.1.below hb).load
              have lD := KO.out.pv.line
              dsimp only at lD
              clear hb c7 l17 l18 l7
              go_wp2
              exact ⟨⟨j + 1, by omega, by go_num, KO⟩, by simp [intOf]; omega⟩
            · have HOT := HC3.out j hjl hja
              obtain ⟨y, hy⟩ : ∃ y, thold s n P M j = y := ⟨_, rfl⟩
              rw [hy] at lw h8 HOT
              have EY := Lib.hid HOT
              clear hy HOT h9
              have n1 : ((j : Int) != (a : Int)) = true := by simp; omega
              have n2 : ((j : Int) == (a : Int)) = false := by simp; omega
              obtain ⟨W1, hW1, H1⟩ := boxed1 wr h8
              have KJ := Lib.hid (KI.out.below H1.out.2)
              have c7 := KJ.out.pv.slot
              dsimp only at c7
              go_wp2_with fail
              refine (tget_is EY.out KJ.out.tok (by have := HB.out; omega) hjl KJ.out.tq KJ.out.lq KJ.out.nm).mono ?_; rintro e w9 ⟨rfl, hb⟩
              obtain ⟨W2, hW2, H2⟩ := boxed1 w9 h8
              have KM := Lib.hid ((KJ.out.below hb).below H2.out.2)
              have l17 := ((H1.out.1.below hb).below H2.out.2).load
              have l18 := H2.out.1.load
              have c8 := KM.out.pv.slot
              dsimp only at c8
              clear hb lw c7
              go_wp2
              exact ⟨⟨j + 1, by omega, by go_num, KM⟩, by simp [intOf]; omega⟩
          · obtain rfl : j = n := by omega
            go_wp2_with fail
            refine (awake_any _).mono ?_; rintro e w9 ⟨rfl, hb⟩
            have B9 := Lib.hid (below_base KI.out.bel KI.out.bel.size hb)
            go_wp2
            go_ret
            exact ⟨rfl, B9.out⟩
      · have HX := Lib.hid r6
        subst hx
        clear r6
        have TC := Lib.hid (tput_is HRP.out HC1.out (by have := HB.out; omega) haS.out hpl8 (by have := KL5.out.tok.m; have := MB.out; omega) (by have := MB.out; omega) XX.out.1 XX.out.2.1 XX.out.2.2.1 K9.out T5.out KL5.out.lq KL5.out.nm)
        go_wp2_with fail
        refine (TC.out).mono ?_; rintro e w6 ⟨rfl, hN, hT, hQ, hC⟩
        have N6 := Lib.hid hN
        have W6 := Lib.hid (KL5.out.wt.chg hC (by simpa using ⟨XX.out.2.2.2.2.2.1, XX.out.2.2.2.2.2.2.1⟩))
        have P6 := Lib.hid (KL5.out.pv.chg hC (by simpa using ⟨YY.out.1, YY.out.2.1⟩))
        have B6 := Lib.hid (hC.below KL5.out.bel KL5.out.bel.size (fun k hk => by rcases List.mem_cons.1 hk with rfl | hk; exact XX.out.2.2.2.2.1; rw [List.mem_singleton.1 hk]; exact XX.out.2.2.2.1))
        clear hN hT hQ hC c5 l5
        go_wp2_with fail
        refine (power_any g s2 w6 N6.out).mono ?_; rintro e w7 ⟨rfl, hN, hC⟩
        have N7 := Lib.hid hN
        have W7 := Lib.hid (W6.out.chg hC (by simpa using XX.out.2.2.2.2.2.1))
        have P7 := Lib.hid (P6.out.chg hC (by simpa using YY.out.1))
        have B7 := Lib.hid (hC.own B6.out XX.out.2.2.2.2.1)
        clear hN hC
        go_wp2_with fail
        refine (tnew_yes (per := per) HC2.out (by have := HB.out; omega) (by have := HB.out; omega) (by have := HB.out; omega) (by have := HB.out; omega) (by have := HCM.out; have := MB.out; omega) N7.out).mono ?_; rintro e w8 ⟨x2, q2, rfl, _, _, _, hQ, hT, hb⟩
        have KD : Hid (Kd w x2 q2 g gw b0 ⟨(a : Int), pl⟩ n P per w8 s M s2.power M') := Lib.hid ⟨N7.out.below hb, hQ, hT, HC2.out, W7.out.below hb, P7.out.below hb, below_base B7.out B7.out.size hb⟩
        clear hQ hT hb
        go_wp2
        go_loopw [118] (fun i wi => ∃ j : Nat, j ≤ n ∧ i = .int .i64 j ∧ Hid (Kd w x2 q2 g gw b0 ⟨(a : Int), pl⟩ n P per wi s M s2.power M')) (fun i _ => n - (intOf i).toNat)
        case atStart => exact ⟨0, Nat.zero_le _, rfl, KD⟩
        case round =>
          obtain ⟨j, hj, rfl, KI⟩ := hrel
          clear KD
          by_cases hjl : j < n
          · have lw := KI.out.wt.load hjl
            have h8 := KI.out.wt.2 j hjl
            have h9 : (thold s2.power n P M' j).length = 8 := KI.out.tok.l.ok.line _
            have i6 : (0 : Int) ≤ (j : Int) := by omega
            have i7 : (j : Int) < (n : Int) := by omega
            have hj40 : j < 20 := by have := HB.out.2.1; omega
            by_cases hja : j = a
            · subst hja
              have HCO := HC4.out
              have hz := HX.out
              rw [hz] at HCO
              obtain ⟨y, hy⟩ : ∃ y, thold s n P M j = y := ⟨_, rfl⟩
              rw [hy] at lw h8 HCO hz
              have EY := Lib.hid hz
              have CO := Lib.hid HCO
              clear hy HCO hz h9
              obtain ⟨W1, hW1, H1⟩ := boxed1 wr h8
              have KJ := Lib.hid (KI.out.below H1.out.2)
              go_wp2_with fail
              refine (tget_is EY.out KJ.out.tok (by have := HB.out; omega) hjl KJ.out.tq KJ.out.lq KJ.out.nm).mono ?_; rintro e w9 ⟨rfl, hb⟩
              obtain ⟨W2, hW2, H2⟩ := boxed1 w9 (a := y) h8
              have KM := Lib.hid ((KJ.out.below hb).below H2.out.2)
              have l17 := ((H1.out.1.below hb).below H2.out.2).load
              have l18 := H2.out.1.load
              have c7 := KM.out.pv.slot
              dsimp only at c7
              have l7 := KM.out.pv.line
              dsimp only at l7
              have hbq9 := Lib.hid hb
              clear hb lw
              go_wp2_with fail
              refine (could_is CO.out W2 h8 hpl8 h8).mono ?_; rintro e wA ⟨rfl, hb⟩
              have KO := Lib.hid (KM.out.below hb)
              have lB := (((H1.out.1.below hbq9.out).below H2.out.2).below hb).load
              have lC := (H2.out.1.below hb).load
              have lD := KO.out.pv.line
              dsimp only at lD
              clear hb c7 l17 l18 l7
              go_wp2
              exact ⟨⟨j + 1, by omega, by go_num, KO⟩, by simp [intOf]; omega⟩
            · have HOT := HC3.out j hjl hja
              obtain ⟨y, hy⟩ : ∃ y, thold s n P M j = y := ⟨_, rfl⟩
              rw [hy] at lw h8 HOT
              have EY := Lib.hid HOT
              clear hy HOT h9
              have n1 : ((j : Int) != (a : Int)) = true := by simp; omega
              have n2 : ((j : Int) == (a : Int)) = false := by simp; omega
              obtain ⟨W1, hW1, H1⟩ := boxed1 wr h8
              have KJ := Lib.hid (KI.out.below H1.out.2)
              have c7 := KJ.out.pv.slot
              dsimp only at c7
              go_wp2_with fail
              refine (tget_is EY.out KJ.out.tok (by have := HB.out; omega) hjl KJ.out.tq KJ.out.lq KJ.out.nm).mono ?_; rintro e w9 ⟨rfl, hb⟩
              obtain ⟨W2, hW2, H2⟩ := boxed1 w9 h8
              have KM := Lib.hid ((KJ.out.below hb).below H2.out.2)
              have l17 := ((H1.out.1.below hb).below H2.out.2).load
              have l18 := H2.out.1.load
              have c8 := KM.out.pv.slot
              dsimp only at c8
              clear hb lw c7
              go_wp2
              exact ⟨⟨j + 1, by omega, by go_num, KM⟩, by simp [intOf]; omega⟩
          · obtain rfl : j = n := by omega
            go_wp2_with fail
            refine (awake_any _).mono ?_; rintro e w9 ⟨rfl, hb⟩
            have B9 := Lib.hid (below_base KI.out.bel KI.out.bel.size hb)
            go_wp2
            go_ret
            exact ⟨rfl, B9.out⟩
      · subst hx
        have TC := Lib.hid (tput_is HRP.out HC1.out (by have := HB.out; omega) haS.out hpl8 (by have := KL5.out.tok.m; have := MB.out; omega) (by have := MB.out; omega) XX.out.1 XX.out.2.1 XX.out.2.2.1 K9.out T5.out KL5.out.lq KL5.out.nm)
        go_wp2_with fail
        refine (TC.out).mono ?_; rintro e w6 ⟨rfl, hN, hT, hQ, hC⟩
        have N6 := Lib.hid hN
        have W6 := Lib.hid (KL5.out.wt.chg hC (by simpa using ⟨XX.out.2.2.2.2.2.1, XX.out.2.2.2.2.2.2.1⟩))
        have P6 := Lib.hid (KL5.out.pv.chg hC (by simpa using ⟨YY.out.1, YY.out.2.1⟩))
        have B6 := Lib.hid (hC.below KL5.out.bel KL5.out.bel.size (fun k hk => by rcases List.mem_cons.1 hk with rfl | hk; exact XX.out.2.2.2.2.1; rw [List.mem_singleton.1 hk]; exact XX.out.2.2.2.1))
        clear hN hT hQ hC c5 l5
        go_wp2_with fail
        refine (power_any g s2 w6 N6.out).mono ?_; rintro e w7 ⟨rfl, hN, hC⟩
        have N7 := Lib.hid hN
        have W7 := Lib.hid (W6.out.chg hC (by simpa using XX.out.2.2.2.2.2.1))
        have P7 := Lib.hid (P6.out.chg hC (by simpa using YY.out.1))
        have B7 := Lib.hid (hC.own B6.out XX.out.2.2.2.2.1)
        clear hN hC
        go_wp2_with fail
        refine (tnew_yes (per := per) HC2.out (by have := HB.out; omega) (by have := HB.out; omega) (by have := HB.out; omega) (by have := HB.out; omega) (by have := HCM.out; have := MB.out; omega) N7.out).mono ?_; rintro e w8 ⟨x2, q2, rfl, _, _, _, hQ, hT, hb⟩
        have KD : Hid (Kd w x2 q2 g gw b0 ⟨(a : Int), pl⟩ n P per w8 s M s2.power M') := Lib.hid ⟨N7.out.below hb, hQ, hT, HC2.out, W7.out.below hb, P7.out.below hb, below_base B7.out B7.out.size hb⟩
        clear hQ hT hb
        go_wp2
        go_loopw [118] (fun i wi => ∃ j : Nat, j ≤ n ∧ i = .int .i64 j ∧ Hid (Kd w x2 q2 g gw b0 ⟨(a : Int), pl⟩ n P per wi s M s2.power M')) (fun i _ => n - (intOf i).toNat)
        case atStart => exact ⟨0, Nat.zero_le _, rfl, KD⟩
        case round =>
          obtain ⟨j, hj, rfl, KI⟩ := hrel
          clear KD
          by_cases hjl : j < n
          · have lw := KI.out.wt.load hjl
            have h8 := KI.out.wt.2 j hjl
            have h9 : (thold s2.power n P M' j).length = 8 := KI.out.tok.l.ok.line _
            have i6 : (0 : Int) ≤ (j : Int) := by omega
            have i7 : (j : Int) < (n : Int) := by omega
            have hj40 : j < 20 := by have := HB.out.2.1; omega
            by_cases hja : j = a
            · subst hja
              have HCO := HC4.out
              obtain ⟨y, hy⟩ : ∃ y, thold s n P M j = y := ⟨_, rfl⟩
              obtain ⟨z, hz⟩ : ∃ z, thold s2.power n P M' j = z := ⟨_, rfl⟩
              rw [hy] at lw h8 HCO
              rw [hz] at HCO h9
              have EY := Lib.hid hz
              have CO := Lib.hid HCO
              clear hy HCO hz
              obtain ⟨W1, hW1, H1⟩ := boxed1 wr h8
              have KJ := Lib.hid (KI.out.below H1.out.2)
              go_wp2_with fail
              refine (tget_is EY.out KJ.out.tok (by have := HB.out; omega) hjl KJ.out.tq KJ.out.lq KJ.out.nm).mono ?_; rintro e w9 ⟨rfl, hb⟩
              obtain ⟨W2, hW2, H2⟩ := boxed1 w9 (a := z) h9
              have KM := Lib.hid ((KJ.out.below hb).below H2.out.2)
              have l17 := ((H1.out.1.below hb).below H2.out.2).load
              have l18 := H2.out.1.load
              have c7 := KM.out.pv.slot
              dsimp only at c7
              have l7 := KM.out.pv.line
              dsimp only at l7
              have hbq9 := Lib.hid hb
              clear hb lw
              go_wp2_with fail
              refine (could_is CO.out W2 h8 hpl8 h9).mono ?_; rintro e wA ⟨rfl, hb⟩
              have KO := Lib.hid (KM.out.below hb)
              have lB := (((H1.out.1.below hbq9.out).below H2.out.2).below hb).load
              have lC := (H2.out.1.below hb).load
              have lD := KO.out.pv.line
              dsimp only at lD
              clear hb c7 l17 l18 l7
              go_wp2
              exact ⟨⟨j + 1, by omega, by go_num, KO⟩, by simp [intOf]; omega⟩
            · have HOT := HC3.out j hjl hja
              obtain ⟨y, hy⟩ : ∃ y, thold s n P M j = y := ⟨_, rfl⟩
              rw [hy] at lw h8 HOT
              have EY := Lib.hid HOT
              clear hy HOT h9
              have n1 : ((j : Int) != (a : Int)) = true := by simp; omega
              have n2 : ((j : Int) == (a : Int)) = false := by simp; omega
              obtain ⟨W1, hW1, H1⟩ := boxed1 wr h8
              have KJ := Lib.hid (KI.out.below H1.out.2)
              have c7 := KJ.out.pv.slot
              dsimp only at c7
              go_wp2_with fail
              refine (tget_is EY.out KJ.out.tok (by have := HB.out; omega) hjl KJ.out.tq KJ.out.lq KJ.out.nm).mono ?_; rintro e w9 ⟨rfl, hb⟩
              obtain ⟨W2, hW2, H2⟩ := boxed1 w9 h8
              have KM := Lib.hid ((KJ.out.below hb).below H2.out.2)
              have l17 := ((H1.out.1.below hb).below H2.out.2).load
              have l18 := H2.out.1.load
              have c8 := KM.out.pv.slot
              dsimp only at c8
              clear hb lw c7
              go_wp2
              exact ⟨⟨j + 1, by omega, by go_num, KM⟩, by simp [intOf]; omega⟩
          · obtain rfl : j = n := by omega
            go_wp2_with fail
            refine (awake_any _).mono ?_; rintro e w9 ⟨rfl, hb⟩
            have B9 := Lib.hid (below_base KI.out.bel KI.out.bel.size hb)
            go_wp2
            go_ret
            exact ⟨rfl, B9.out⟩

theorem walk (a0 a1 a2 : Int) (lim : List Int) (lv : Value) (l : List Pt) (v : Value) (c0 : Pt) (a6 a7 : Int) (w : World) (_ : (Lit.int .i64 a0).wf = true) (_ : (Lit.int .i64 a1).wf = true) (_ : (Lit.int .i64 a2).wf = true) (hl : IntsIn .i64 w lv lim) (h : RP w v l) (hc0 : c0.Wf) (_ : (Lit.int .i64 a6).wf = true) (_ : (Lit.int .i64 a7).wf = true) :
    Calls Try.prog 4 #[.int .i64 a0, .int .i64 a1, .int .i64 a2, lv, v, .agg (pc c0), .int .i64 a6, .int .i64 a7] w fun e w' => e = .returned (.bool true) ∧ Below w.heap.size w w' := by
  by_cases hb : 60 < l.length ∨ 200 < lim.length
  · exact small a0 a1 a2 a6 a7 c0 lim l lv v w hl h hc0 hb
  · exact main a0 a1 a2 a6 a7 c0 lim l lv v w hl h hc0 (by omega) (by omega)

set_option maxRecDepth 100000 in
theorem lifted (os : Os) (started : os.Started) (H : Type) (enc : TypeId × Value → H) :
    ReturnsInHanded {} Try.checked os 4 .any (Rows.turnCutSpec.pre6 enc Try.prog Try.f4 Rows.turnCutRow.domain false) (Rows.turnCutSpec.post enc Try.prog Try.f4 false true false false) := by
  refine returnsInHanded_of_change (C := Try.checked) own started (by kernel_rfl) Try.func4
    (ChangeSpec.witness6 (enc := enc) (C := Try.checked) false ⟨#[], #[.int .i64 0, .int .i64 0, .int .i64 0, .slice none 0 0, .slice none 0 0, .agg #[.int .i64 0, .int .u64 0, .int .u64 0, .int .u64 0, .int .u64 0, .int .u64 0, .int .u64 0, .int .u64 0, .int .u64 0], .int .i64 0, .int .i64 0], []⟩ 8 (by kernel_rfl) (by kernel_rfl) (by kernel_rfl) (by kernel_rfl)) ?_
  intro W base args ds gs before hval0 hW hcnd _
  have hval : ∀ (j : Nat) t v, Try.f4.params[j]? = some t → args[j]? = some v → Value.okWide Try.prog W .any base t v := hval0
  have hW' := hW
  have hlt := hW.lt
  obtain ⟨p, q, hA0, hV, hpq, hfz, hnd⟩ := hW
  have hA : DataW.TrodAll enc Try.prog W 0 (fun _ => true) true Try.f4.params.toList args.toList ds p := hA0
  rw [Try.params4] at hA hval
  obtain ⟨v0, vs0, d0, ds0, p0, q0, hargs, rfl, hp, h0, r0⟩ := trodAll_cons hA
  obtain ⟨v1, vs1, d1, ds1, p1, q1, rfl, rfl, rfl, h1, r1⟩ := trodAll_cons r0
  obtain ⟨v2, vs2, d2, ds2, p2, q2, rfl, rfl, rfl, h2, r2⟩ := trodAll_cons r1
  obtain ⟨v3, vs3, d3, ds3, p3, q3, rfl, rfl, rfl, h3, r3⟩ := trodAll_cons r2
  obtain ⟨v4, vs4, d4, ds4, p4, q4, rfl, rfl, rfl, h4, r4⟩ := trodAll_cons r3
  obtain ⟨v5, vs5, d5, ds5, p5, q5, rfl, rfl, rfl, h5, r5⟩ := trodAll_cons r4
  obtain ⟨v6, vs6, d6, ds6, p6, q6, rfl, rfl, rfl, h6, r6⟩ := trodAll_cons r5
  obtain ⟨v7, vs7, d7, ds7, p7, q7, rfl, rfl, rfl, h7, r7⟩ := trodAll_cons r6
  obtain ⟨rfl, rfl, rfl⟩ := trodAll_nil r7
  obtain rfl : args = #[v0, v1, v2, v3, v4, v5, v6, v7] := by cases args; simp_all
  obtain ⟨rfl, rfl⟩ := trodVars_none hV
  have hlt' : ∀ x ∈ before, x.block < W.heap.size := fun x hx => hlt x hx
  obtain ⟨a0, rfl, rfl, rfl, w0⟩ := open_int Try.underlying3 (hval 0 3 v0 rfl rfl) h0
  obtain ⟨a1, rfl, rfl, rfl, w1⟩ := open_int Try.underlying3 (hval 1 3 v1 rfl rfl) h1
  obtain ⟨a2, rfl, rfl, rfl, w2⟩ := open_int Try.underlying3 (hval 2 3 v2 rfl rfl) h2
  obtain ⟨l3, w3⟩ := ints_in Try.underlying22 Try.underlying3 (by kernel_rfl) (hval 3 22 v3 rfl rfl) (fun x hx => hlt' x (by rw [hpq, hp]; simp [hx])) h3
  obtain ⟨l4, w4⟩ := puts_in (hval 4 23 v4 rfl rfl) h4
  obtain ⟨c5, rfl, w5⟩ := put_in (hval 5 35 v5 rfl rfl) h5
  obtain ⟨a6, rfl, rfl, rfl, w6⟩ := open_int Try.underlying3 (hval 6 3 v6 rfl rfl) h6
  obtain ⟨a7, rfl, rfl, rfl, w7⟩ := open_int Try.underlying3 (hval 7 3 v7 rfl rfl) h7
  refine (walk a0 a1 a2 l3 v3 l4 v4 c5 a6 a7 W w0 w1 w2 w3 w4 w5 w6 w7).mono fun e W' ⟨he, hb⟩ => ?_
  subst he
  exact ⟨_, rfl, law_post rfl (by kernel_rfl) hW' (by rw [Try.params4]; intro t ht; simp only [List.mem_cons, List.not_mem_nil, or_false] at ht; (repeat' (first | (rcases ht with rfl | ht) | subst ht)) <;> exact ⟨by kernel_rfl, of_decide_eq_true (by kernel_rfl)⟩) rfl hb⟩

theorem over : Rows.turnCutRow.holds Try.pinned (OpenSpec.ofChange Rows.turnCutSpec) :=
  OpenClaim.holds_of_wide 4 Try.f4 rfl rfl rfl rfl rfl rfl rfl ⟨rfl, rfl, rfl, rfl, rfl⟩ rfl rfl rfl rfl rfl (by kernel_rfl) Try.func4 (by kernel_rfl)
    (of_decide_eq_true (by kernel_rfl)) (by unfold Func.isWrapper; first | (rw [if_pos (by decide +kernel)]; kernel_rfl) | (rw [if_neg (by decide +kernel)]; exact ⟨rfl, rfl⟩))
    (fun os started H enc _ => lifted os started H enc)

theorem proved : Rows.TurnCutSaid := over
end Go.Proofs.Ytjchmkgkibiadaa.turnCut
