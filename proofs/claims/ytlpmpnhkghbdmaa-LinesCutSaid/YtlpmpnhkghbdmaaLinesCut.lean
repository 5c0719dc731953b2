/-
  Whenever the power goes in a Put, its slot holds what it held, or what was put, or a mix of both; all others hold what they held; found anew it is the same. No conditions.
-/
import Derived.Test.YtlpmpnhkghbdmaaLnw
import Derived.Test.YtlpmpnhkghbdmaaPt
import Derived.Test.YtlpmpnhkghbdmaaWt
namespace Go.Proofs.Ytlpmpnhkghbdmaa.linesCut
open Go.Proofs.Ytlpmpnhkghbdmaa Go.ChangeShapes Go.WideShapes Go.ChangeAt Go.RowKit

/-- the lines and what they must hold, behind k Puts; the Put that is to come -/
structure Kp (w : World) (q g gw b0 : Nat) (c0 : Pt) (S P : Nat) (wr : World) (k : Nat) (s : Nv) : Prop where
  nm : Nm wr g s
  lq : Lq wr q g S P
  lok : LOk s S P
  comes : s.comes = false
  wt : Wt wr gw S (hold s S P)
  pv : Pv wr b0 c0
  bel : Below w.heap.size w wr
  c : s.c ≤ 40 * k
theorem Kp.below {w : World} {q g gw b0 : Nat} {c0 : Pt} {S P : Nat} {wr wr' : World} {k : Nat} {s : Nv} (h : Kp w q g gw b0 c0 S P wr k s) (hb : Below wr.heap.size wr wr') : Kp w q g gw b0 c0 S P wr' k s :=
  ⟨h.nm.below hb, h.lq.below hb, h.lok, h.comes, h.wt.below hb, h.pv.below hb, below_base h.bel h.bel.size hb, h.c⟩
theorem Kp.more {w : World} {q g gw b0 : Nat} {c0 : Pt} {S P : Nat} {wr : World} {k : Nat} {s : Nv} (h : Kp w q g gw b0 c0 S P wr k s) : Kp w q g gw b0 c0 S P wr (k + 1) s :=
  ⟨h.nm, h.lq, h.lok, h.comes, h.wt, h.pv, h.bel, by have := h.c; push_cast; omega⟩

/-- behind the cut: s2 is what is read, s what was held -/
structure Kd (w : World) (q g gw b0 : Nat) (c0 : Pt) (S P : Nat) (wr : World) (s s2 : Nv) : Prop where
  nm : Nm wr g s2
  lq : Lq wr q g S P
  lok : LOk s2 S P
  wt : Wt wr gw S (hold s S P)
  pv : Pv wr b0 c0
  bel : Below w.heap.size w wr
theorem Kd.below {w : World} {q g gw b0 : Nat} {c0 : Pt} {S P : Nat} {wr wr' : World} {s s2 : Nv} (h : Kd w q g gw b0 c0 S P wr s s2) (hb : Below wr.heap.size wr wr') : Kd w q g gw b0 c0 S P wr' s s2 :=
  ⟨h.nm.below hb, h.lq.below hb, h.lok, h.wt.below hb, h.pv.below hb, below_base h.bel h.bel.size hb⟩

/-- a Put that the power may go in, and the power come again -/
theorem cutPut {S P a : Nat} {s : Nv} {d : List Int} (H : LOk s S P) (hd : d.length = 8) (ha : a < S) {n m : Int} (hn : n ≤ 9223372036854775807) :
    ∃ x s2, lput S P a d (s.cutAt n m) = (x, s2) ∧ LOk (s.cutAt n m) S P ∧ LOk s2.power S P ∧ (∀ b, b < S → b ≠ a → hold s2.power S P b = hold s S P b) ∧
      ((x = 0 ∧ hold s2.power S P a = d) ∨ (x = 3 ∧ hold s2.power S P a = hold s S P a) ∨ x = 2) ∧ could (hold s S P a) d (hold s2.power S P a) = true := by
  have H1 : LOk (s.cutAt n m) S P := ⟨H.ok.cutAt hn m, H.n, H.p, H.may, H.live⟩
  obtain ⟨o, _⟩ := lput_out (a := a) H1 hd ha
  have hh : ∀ b, hold (s.cutAt n m) S P b = hold s S P b := fun b => rfl
  have hp : ∀ (z : Nv) b, hold z.power S P b = hold z S P b := fun z b => rfl
  have h8 := H.ok.line (placeT (s.tb P) S a).toNat
  obtain ⟨R, hR⟩ : ∃ R, lput S P a d (s.cutAt n m) = R := ⟨_, rfl⟩
  rw [hR] at o
  rcases R with ⟨x, s2⟩
  dsimp only at o
  refine ⟨x, s2, hR, H1, ⟨o.ok.power, o.n.trans H1.n, H.p, o.may, rfl⟩, fun b hb hne => by rw [hp, o.oth b hb hne, hh], ?_, ?_⟩
  · rcases o.own with ⟨h1, _, h2⟩ | ⟨h1, _, _, h2⟩ | ⟨h1, _⟩
    · exact .inl ⟨h1, by rw [hp]; exact h2⟩
    · exact .inr (.inl ⟨h1, by rw [hp]; exact h2⟩)
    · exact .inr (.inr h1)
  · rcases o.own with ⟨h1, _, h2⟩ | ⟨h1, _, _, h2⟩ | ⟨_, _, h3⟩
    · rw [hp, h2]; exact could_new _ _ (h8.trans hd.symm)
    · rw [hp, h2]; exact could_old _ _ (h8.trans hd.symm)
    · rw [hp]; exact h3

set_option maxRecDepth 100000 in
set_option maxHeartbeats 1000000 in
theorem small (a0 a1 a5 a6 : Int) (c0 : Pt) (lim : List Int) (l : List Pt) (lv v : Value) (w : World) (hl : IntsIn .i64 w lv lim) (h : RP w v l) (hc0 : c0.Wf) (hb : 60 < l.length ∨ 200 < lim.length) :
    Calls Try.prog 4 #[.int .i64 a0, .int .i64 a1, lv, v, .agg (pc c0), .int .i64 a5, .int .i64 a6] w fun e w' => e = .returned (.bool true) ∧ Below w.heap.size w w' := by
  obtain ⟨p, cap, rfl, h1, h2⟩ := rp_shape h
  obtain ⟨p2, cap2, rfl, h3, h4, _⟩ := hl
  unfold maxLen at h2 h4
  have hl8 := hc0.len
  have B0 := Lib.hid (bal (o := .cells (pc c0) 35) (Below.refl w.heap.size w))
  by_cases hx : 60 < l.length
  · have i1 : (60 : Int) < (l.length : Int) := by omega
    clear hb h
    generalize l.length = n at *
    go_enter Try.func4, Try.ntmps4
    go_wp2_with fail
    refine (awake_any _).mono ?_; rintro e w' ⟨rfl, hb⟩
    have B1 := Lib.hid (below_more B0.out hb)
    go_wp2
    go_ret
    exact ⟨rfl, B1.out⟩
  · have i1 : ¬ (60 : Int) < (l.length : Int) := by omega
    have i2 : (200 : Int) < (lim.length : Int) := by omega
    clear hb h
    generalize l.length = n at *
    generalize lim.length = n2 at *
    go_enter Try.func4, Try.ntmps4
    go_wp2_with fail
    refine (awake_any _).mono ?_; rintro e w' ⟨rfl, hb⟩
    have B1 := Lib.hid (below_more B0.out hb)
    go_wp2
    go_ret
    exact ⟨rfl, B1.out⟩

set_option maxRecDepth 100000 in
set_option maxHeartbeats 8000000 in
theorem main (a0 a1 a5 a6 : Int) (c0 : Pt) (lim : List Int) (l : List Pt) (lv v : Value) (w : World) (hl : IntsIn .i64 w lv lim) (h : RP w v l) (hc0 : c0.Wf) (hb1 : l.length ≤ 60) (hb2 : lim.length ≤ 200) :
    Calls Try.prog 4 #[.int .i64 a0, .int .i64 a1, lv, v, .agg (pc c0), .int .i64 a5, .int .i64 a6] w fun e w' => e = .returned (.bool true) ∧ Below w.heap.size w w' := by
  obtain ⟨u0, hu0, _⟩ := u64_nat a0
  obtain ⟨m, hm⟩ : ∃ m, m = u0 % 20 := ⟨_, rfl⟩
  have t0 : (u0 : Int).tmod 20 = (m : Int) := by rw [hm]; exact tmod_nat u0 20
  obtain ⟨S, hS⟩ : ∃ S : Nat, S = m + 1 := ⟨_, rfl⟩
  have k0 : IntKind.i64.wrap (m : Int) = m := IntWalk.i64_in _ (by omega)
  have k1 : IntKind.i64.wrap (1 + (m : Int)) = (S : Int) := by rw [show 1 + (m : Int) = (S : Int) by omega]; exact IntWalk.i64_in _ (by omega)
  obtain ⟨u1, hu1, _⟩ := u64_nat a1
  obtain ⟨P, hP⟩ : ∃ P, P = u1 % 17 := ⟨_, rfl⟩
  have t1 : (u1 : Int).tmod 17 = (P : Int) := by rw [hP]; exact tmod_nat u1 17
  have k2 : IntKind.i64.wrap (P : Int) = P := IntWalk.i64_in _ (by omega)
  obtain ⟨N, hN⟩ : ∃ N : Nat, N = S + P := ⟨_, rfl⟩
  have k3 : IntKind.i64.wrap ((S : Int) + (P : Int)) = (N : Int) := by rw [show (S : Int) + (P : Int) = (N : Int) by omega]; exact IntWalk.i64_in _ (by omega)
  obtain ⟨u5, hu5, _⟩ := u64_nat a5
  obtain ⟨nn, hnn⟩ : ∃ nn, nn = u5 % 8 := ⟨_, rfl⟩
  have t5 : (u5 : Int).tmod 8 = (nn : Int) := by rw [hnn]; exact tmod_nat u5 8
  have k5 : IntKind.i64.wrap (nn : Int) = nn := IntWalk.i64_in _ (by omega)
  obtain ⟨ux, hux, _⟩ := u64_nat c0.i
  obtain ⟨a, hax⟩ : ∃ a, a = ux % S := ⟨_, rfl⟩
  have tx : (ux : Int).tmod (S : Int) = (a : Int) := by rw [hax]; exact tmod_nat ux S
  have haS : a < S := by rw [hax]; exact Nat.mod_lt _ (by omega)
  have k6 : IntKind.u64.wrap (S : Int) = (S : Int) := by simp [IntKind.wrap, IntKind.signed, IntKind.bits]; omega
  have k7 : IntKind.i64.wrap (a : Int) = (a : Int) := IntWalk.i64_in _ (by omega)
  have hS0 : ¬ S = 0 := by omega
  have HB : Hid (1 ≤ S ∧ S ≤ 20 ∧ P ≤ 16 ∧ N = S + P ∧ nn < 8 ∧ a < S) := Lib.hid ⟨by omega, by omega, by omega, hN, by omega, haS⟩
  have R0 := Lib.hid (ri_in hl)
  have HR := Lib.hid h
  have LK := newNv_lok (S := S) (P := P) (by omega) (by omega) (by omega) lim
  rw [← hN] at LK
  have HK := Lib.hid LK
  obtain ⟨p, cap, rfl, h1, h2⟩ := rp_shape h
  obtain ⟨p2, cap2, rfl, h3, h4, _⟩ := hl
  have i1 : ¬ (60 : Int) < (l.length : Int) := by omega
  have i2 : ¬ (200 : Int) < (lim.length : Int) := by omega
  have hmk := run_make_want S (by omega)
  obtain ⟨n, hn⟩ : ∃ n, l.length = n := ⟨_, rfl⟩
  obtain ⟨n2, hn2⟩ : ∃ n2, lim.length = n2 := ⟨_, rfl⟩
  have EN := Lib.hid hn
  have HN200 : Hid (n ≤ 60) := Lib.hid (by omega)
  rw [hn] at i1 HR ⊢
  rw [hn2] at i2 R0 ⊢
  have hp8 := hc0.len
  obtain ⟨b0, hb0⟩ : ∃ b0, w.heap.size = b0 := ⟨_, rfl⟩
  obtain ⟨W0, hW0⟩ : ∃ W0, w.alloc (.cells (pc c0) 35) = W0 := ⟨_, rfl⟩
  have PV0 := Pv.new w hp8
  have BE0 := bal (o := .cells (pc c0) 35) (Below.refl w.heap.size w)
  rw [hW0, hb0] at PV0
  rw [hW0] at BE0
  have PV00 := Lib.hid PV0
  have B0 := Lib.hid BE0
  have RI0 := Lib.hid (ri_below R0.out BE0)
  have HB0 := Lib.hid hb0
  clear hm hS hP hN hnn hax haS h h1 h2 h3 h4 hb1 hb2 hn hn2 LK hc0 PV0 BE0
  go_enter Try.func4, Try.ntmps4
  go_wp2_with fail
  refine (new_yes N _ _ W0 (by have := HB.out; omega) (by have := HB.out; omega) RI0.out).mono ?_; rintro e w1 ⟨g, rfl, hg, hN, hb⟩
  have G1 : Hid (w.heap.size ≤ g) := Lib.hid (Nat.le_trans B0.out.size hg)
  have PV1 := Lib.hid (PV00.out.below hb)
  have HBG : Hid (b0 ≠ g) := Lib.hid (by have := PV00.out.lt; omega)
  have N1 := Lib.hid hN
  have B1 := Lib.hid (below_more B0.out hb)
  clear hg hN hb
  go_wp2_with fail
  refine (lnew_yes HK.out N1.out).mono ?_; rintro e w2 ⟨q, rfl, hq, hQ, hb⟩
  have HQG : Hid (q ≠ g) := Lib.hid (by have := N1.out.lt; omega)
  have HQB : Hid (q ≠ b0) := Lib.hid (by have := PV1.out.lt; omega)
  obtain ⟨gw, hgw⟩ : ∃ gw, w2.heap.size = gw := ⟨_, rfl⟩
  have W3 := Wt.new w2 S
  have B3 := below_more B1.out hb
  have HGW : Hid (w.heap.size ≤ gw) := Lib.hid (by rw [← hgw]; exact B3.size)
  have KK : Hid (q ≠ g ∧ w.heap.size ≤ g ∧ gw ≠ g ∧ b0 ≠ g ∧ b0 ≠ gw ∧ q ≠ gw) := Lib.hid ⟨HQG.out, G1.out, by have := (N1.out.below hb).lt; omega, HBG.out, by have := (PV1.out.below hb).lt; omega, by have := hQ.lt; omega⟩
  have KP : Hid (Kp w q g gw b0 c0 S P (w2.alloc (.cells (tab (S * 8) (wl fun _ => zeros)) 33)) 0 (newNv N lim)) :=
    Lib.hid ⟨(N1.out.below hb).alloc _, hQ.alloc _, HK.out, rfl, by rw [← hgw]; exact W3.as fun i _ => rfl, (PV1.out.below hb).alloc _, bal B3, by show (0 : Int) ≤ _; simp⟩
  have hmk2 := hmk w2
  clear hmk
  rw [hgw] at hmk2
  clear hq hQ hb W3 B3 t0 t1 k0 k1 k2 k3 hgw
  go_wp2
  go_loopw [59] (fun i wr => ∃ k : Nat, k ≤ n ∧ i = .int .i64 k ∧ Hid (∃ s, Kp w q g gw b0 c0 S P wr k s)) (fun i _ => n - (intOf i).toNat)
  case atStart => exact ⟨0, Nat.zero_le _, rfl, Lib.hid ⟨_, KP.out⟩⟩
  case round =>
    obtain ⟨k, hk, rfl, H⟩ := hrel
    obtain ⟨s, hs⟩ := H.out
    have HK0 := Lib.hid hs
    clear hs H KP hmk2
    by_cases hlt : k < n
    · have hRr := rp_below HR.out HK0.out.bel
      obtain ⟨b, off, rfl, hb, hld, hwf⟩ := rp_at hRr (k := k) (by rw [EN.out]; exact hlt)
      obtain ⟨c, hc⟩ : ∃ c, l.getD k default = c := ⟨_, rfl⟩
      rw [hc] at hld hwf
      have hci := hwf.len
      rcases c with ⟨ci, cl⟩
      obtain ⟨W1, hW1⟩ : ∃ W1, wr.alloc (.cells (pc ⟨ci, cl⟩) 35) = W1 := ⟨_, rfl⟩
      have PV := Pv.new wr hci
      have BA := bal (o := .cells (pc ⟨ci, cl⟩) 35) (Below.refl wr.heap.size wr)
      rw [hW1] at PV BA
      have PV1 := Lib.hid PV
      have KB := Lib.hid (HK0.out.below BA)
      have PB : Hid (¬ wr.heap.size = g) := Lib.hid (by have := HK0.out.nm.lt; omega)
      have i3 : (0 : Int) ≤ (k : Int) := by omega
      have i4 : (k : Int) < (n : Int) := by omega
      have K9 : Hid (s.c + 200 < 4611686018427387904) := Lib.hid (by have := KB.out.c; have := HN200.out; omega)
      have c3 := PV1.out.slot
      have l3 := PV1.out.line
      clear hc hwf PV BA hRr hb
      dsimp only at c3 l3
      by_cases ha : 0 ≤ ci ∧ ci < S
      · obtain ⟨a, rfl⟩ : ∃ a : Nat, ci = a := ⟨ci.toNat, by omega⟩
        have has : a < S := by omega
        have i10 : (0 : Int) ≤ (a : Int) := by omega
        have i11 : (a : Int) < (S : Int) := by omega
        have OO := Lib.hid (lput_out KB.out.lok hci has)
        obtain ⟨R, hR⟩ : ∃ R, lput S P (a : Int) cl s = R := ⟨_, rfl⟩
        rw [hR] at OO
        have HP := Lib.hid hR
        rcases R with ⟨x, s'⟩
        dsimp only at OO
        clear hR ha
        rcases OO.out.1.own with ⟨hx, hd, hh⟩ | ⟨hx, hd, hlf, hh⟩ | ⟨hx, hcm, hh⟩
        · have LS := Lib.hid (OO.out.1.lok KB.out.lok hd)
          clear hd
          rw [hx] at HP
          have X1 := Lib.hid hh
          clear hx hh
          go_wp2_with fail
          refine (lput_is HP.out KB.out.lok hci KK.out.1 K9.out KB.out.lq KB.out.nm).mono ?_; rintro e w3 ⟨rfl, hN, hC⟩
          have PV3 := Lib.hid (PV1.out.chg hC (by have := PB.out; simpa using this))
          have WT3 := KB.out.wt.chg hC (by simpa using KK.out.2.2.1)
          have hst := WT3.store has hci
          have WT4 := (WT3.set_ a hci).as (f' := hold s' S P) (fun i hi => by
            unfold upd; split
            · rename_i e; subst e; exact X1.out
            · rename_i e; exact OO.out.1.oth i hi e)
          obtain ⟨W4, hW4⟩ : ∃ W4, w3.setCells gw (a * 8) (cl.map uv) = W4 := ⟨_, rfl⟩
          rw [hW4] at hst WT4
          have hC4 := Chg.setCells (D := [gw]) (w := w3) (b := gw) (.inl (by simp)) (cl.map uv) (a * 8) w3 (Chg.refl _ _)
          rw [hW4] at hC4
          have KS : Hid (Kp w q g gw b0 c0 S P W4 (k + 1) s') := Lib.hid ⟨hN.chg hC4 (by simpa using fun e => KK.out.2.2.1 e.symm), (KB.out.lq.chg hC (by simpa using KK.out.1)).chg hC4 (by simpa using KK.out.2.2.2.2.2), LS.out, OO.out.1.comes.trans KB.out.comes, WT4, (KB.out.pv.chg hC (by simpa using KK.out.2.2.2.1)).chg hC4 (by simpa using KK.out.2.2.2.2.1), hC4.own (hC.own KB.out.bel KK.out.2.1) HGW.out, by have := KB.out.c; have := OO.out.2; push_cast; omega⟩
          have c4 := PV3.out.slot
          dsimp only at c4
          have l4 := PV3.out.line
          dsimp only at l4
          clear hN hC c3 l3 WT3 WT4 hC4
          go_wp2
          exact ⟨⟨k + 1, by omega, by go_num, Lib.hid ⟨_, KS.out⟩⟩, by simp [intOf]; omega⟩
        · have LS := Lib.hid (OO.out.1.lok KB.out.lok hd)
          clear hd hlf
          rw [hx] at HP
          have X1 := Lib.hid hh
          clear hx hh
          go_wp2_with fail
          refine (lput_is HP.out KB.out.lok hci KK.out.1 K9.out KB.out.lq KB.out.nm).mono ?_; rintro e w3 ⟨rfl, hN, hC⟩
          have KS : Hid (Kp w q g gw b0 c0 S P w3 (k + 1) s') := Lib.hid ⟨hN, KB.out.lq.chg hC (by simpa using KK.out.1), LS.out, OO.out.1.comes.trans KB.out.comes, (KB.out.wt.chg hC (by simpa using KK.out.2.2.1)).as (fun i hi => by
            by_cases e : i = a
            · subst e; exact X1.out
            · exact OO.out.1.oth i hi e), KB.out.pv.chg hC (by simpa using KK.out.2.2.2.1), hC.own KB.out.bel KK.out.2.1, by have := KB.out.c; have := OO.out.2; push_cast; omega⟩
          clear hN hC c3 l3
          go_wp2
          exact ⟨⟨k + 1, by omega, by go_num, Lib.hid ⟨_, KS.out⟩⟩, by simp [intOf]; omega⟩
        · rw [KB.out.comes] at hcm; cases hcm
      · clear i3 i4
        have hpe : lput S P ci cl s = (1, s) := by rw [lput, if_neg (by omega)]
        have HP := Lib.hid hpe
        clear hpe
        go_wp2_with fail
        refine (lput_is HP.out KB.out.lok hci KK.out.1 K9.out KB.out.lq KB.out.nm).mono ?_; rintro e w3 ⟨rfl, hN, hC⟩
        have KS := Lib.hid (Kp.more ⟨hN, KB.out.lq.chg hC (by simpa using KK.out.1), KB.out.lok, KB.out.comes, KB.out.wt.chg hC (by simpa using KK.out.2.2.1), KB.out.pv.chg hC (by simpa using KK.out.2.2.2.1), hC.own KB.out.bel KK.out.2.1, KB.out.c⟩)
        clear hN hC c3 l3
        go_wp2
        exact ⟨⟨k + 1, by omega, by go_num, Lib.hid ⟨_, KS.out⟩⟩, by simp [intOf]; omega⟩
    · obtain rfl : k = n := by omega
      have hpl8 : c0.l.length = 8 := hp8
      rcases c0 with ⟨pi, pl⟩
      dsimp only at hux hpl8 hp8
      have c1 := HK0.out.pv.slot
      dsimp only at c1
      have f1 := HK0.out.pv.free 0
      have PV5 := HK0.out.pv.set_ (a : Int)
      have CH5 := (Chg.refl [b0] wr).setCell (p := ⟨b0, 0, none⟩) (.inl (by simp)) (.int .i64 (a : Int))
      have BE5 := HK0.out.bel.setCell (p := ⟨b0, 0, none⟩) (Nat.le_of_eq HB0.out) (.int .i64 (a : Int))
      obtain ⟨W4, hW4⟩ : ∃ W4, wr.setCell ⟨b0, 0, none⟩ (.int .i64 (a : Int)) = W4 := ⟨_, rfl⟩
      rw [hW4] at PV5 CH5 BE5
      dsimp only at PV5
      have KL : Hid (Kp w q g gw b0 ⟨(a : Int), pl⟩ S P W4 k s) := Lib.hid ⟨HK0.out.nm.chg CH5 (by simpa using fun e => KK.out.2.2.2.1 e.symm), HK0.out.lq.chg CH5 (by simpa using HQB.out), HK0.out.lok, HK0.out.comes, HK0.out.wt.chg CH5 (by simpa using fun e => KK.out.2.2.2.2.1 e.symm), PV5, BE5, HK0.out.c⟩
      clear PV5 CH5 BE5
      have haS : a < S := HB.out.2.2.2.2.2
      obtain ⟨x, s2, r1, r2, r3, r4, r5, r6⟩ := cutPut (a := a) (n := (nn : Int)) (m := a6) KL.out.lok hpl8 haS (by have := HB.out; omega)
      have HRP := Lib.hid r1
      have HC1 := Lib.hid r2
      have HC2 := Lib.hid r3
      have HC3 := Lib.hid r4
      have HC4 := Lib.hid r6
      have K9 : Hid ((s.cutAt (nn : Int) a6).c + 200 < 4611686018427387904) := Lib.hid (by have := KL.out.c; have := HN200.out; show s.c + 200 < _; omega)
      clear r1 r2 r3 r4 r6 haS hlt hk
      go_wp2_with fail
      refine (cut_any g s (nn : Int) a6 W4 KL.out.nm).mono ?_; rintro e w5 ⟨rfl, hN, hC⟩
      have KL5 : Hid (Kd w q g gw b0 ⟨(a : Int), pl⟩ S P w5 s (s.cutAt (nn : Int) a6)) := Lib.hid ⟨hN, KL.out.lq.chg hC (by simpa using KK.out.1), HC1.out, KL.out.wt.chg hC (by simpa using KK.out.2.2.1), KL.out.pv.chg hC (by simpa using KK.out.2.2.2.1), hC.own KL.out.bel KK.out.2.1⟩
      have c5 := KL5.out.pv.slot
      dsimp only at c5
      have l5 := KL5.out.pv.line
      dsimp only at l5
      clear hN hC c1 f1
      rcases r5 with ⟨hx, r5⟩ | ⟨hx, r5⟩ | hx
      · have HX := Lib.hid r5
        subst hx
        clear r5
        go_wp2_with fail
        refine (lput_any q g S P (s.cutAt (nn : Int) a6) (a : Int) pl w5 KL5.out.lq KL5.out.nm HC1.out.ok HC1.out.p (by have := HB.out; omega) hpl8 KK.out.1 K9.out).mono ?_; rintro e w6 ⟨rfl, hN, hC⟩
        rw [HRP.out] at hN ⊢
        have N6 := Lib.hid hN
        have Q6 := Lib.hid (KL5.out.lq.chg hC (by simpa using KK.out.1))
        have W6 := Lib.hid (KL5.out.wt.chg hC (by simpa using KK.out.2.2.1))
        have P6 := Lib.hid (KL5.out.pv.chg hC (by simpa using KK.out.2.2.2.1))
        have B6 := Lib.hid (hC.own KL5.out.bel KK.out.2.1)
        clear hN hC c5 l5
        go_wp2_with fail
        refine (power_any g s2 w6 N6.out).mono ?_; rintro e w7 ⟨rfl, hN, hC⟩
        have N7 := Lib.hid hN
        have W7 := Lib.hid (W6.out.chg hC (by simpa using KK.out.2.2.1))
        have P7 := Lib.hid (P6.out.chg hC (by simpa using KK.out.2.2.2.1))
        have B7 := Lib.hid (hC.own B6.out KK.out.2.1)
        clear hN hC
        go_wp2_with fail
        refine (lnew_yes HC2.out N7.out).mono ?_; rintro e w8 ⟨q2, rfl, _, hQ, hb⟩
        have KD : Hid (Kd w q2 g gw b0 ⟨(a : Int), pl⟩ S P w8 s s2.power) := Lib.hid ⟨N7.out.below hb, hQ, HC2.out, W7.out.below hb, P7.out.below hb, below_base B7.out B7.out.size hb⟩
        clear hQ hb
        go_wp2
        go_loopw [108] (fun i wi => ∃ j : Nat, j ≤ S ∧ i = .int .i64 j ∧ Hid (Kd w q2 g gw b0 ⟨(a : Int), pl⟩ S P wi s s2.power)) (fun i _ => S - (intOf i).toNat)
        case atStart => exact ⟨0, Nat.zero_le _, rfl, KD⟩
        case round =>
          obtain ⟨j, hj, rfl, KI⟩ := hrel
          clear KD
          by_cases hjl : j < S
          · have lw := KI.out.wt.load hjl
            have h8 := KI.out.wt.2 j hjl
            have h9 : (hold s2.power S P j).length = 8 := KI.out.lok.ok.line _
            have i6 : (0 : Int) ≤ (j : Int) := by omega
            have i7 : (j : Int) < (S : Int) := by omega
            have hj40 : j < 20 := by have := HB.out.2.1; omega
            by_cases hja : j = a
            · subst hja
              have HCO := HC4.out
              have hz := HX.out
              rw [hz] at HCO
              obtain ⟨y, hy⟩ : ∃ y, hold s S P j = y := ⟨_, rfl⟩
              rw [hy] at lw h8 HCO
              have EY := Lib.hid hz
              have CO := Lib.hid HCO
              clear hy HCO hz h9
              obtain ⟨W1, hW1, H1⟩ := boxed1 wr h8
              have KJ := Lib.hid (KI.out.below H1.out.2)
              go_wp2_with fail
              refine (lget_is EY.out KJ.out.lok hjl KJ.out.lq KJ.out.nm).mono ?_; rintro e w9 ⟨rfl, hb⟩
              obtain ⟨W2, hW2, H2⟩ := boxed1 w9 (a := pl) hpl8
              have KM := Lib.hid ((KJ.out.below hb).below H2.out.2)
              have l17 := ((H1.out.1.below hb).below H2.out.2).load
              have l18 := H2.out.1.load
              have c7 := KM.out.pv.slot
              dsimp only at c7
              have l7 := KM.out.pv.line
              dsimp only at l7
              clear hb lw
              go_wp2_with fail
              refine (could_is CO.out W2 h8 hpl8 hpl8).mono ?_; rintro e wA ⟨rfl, hb⟩
              have KO := Lib.hid (KM.out.below hb)
              have c8 := KO.out.pv.slot
              dsimp only at c8
              clear hb c7 l17 l18 l7
              go_wp2
              exact ⟨⟨j + 1, by omega, by go_num, KO⟩, by simp [intOf]; omega⟩
            · have HOT := HC3.out j hjl hja
              obtain ⟨y, hy⟩ : ∃ y, hold s S P j = y := ⟨_, rfl⟩
              rw [hy] at lw h8 HOT
              have EY := Lib.hid HOT
              have CO := Lib.hid (could_old y pl (h8.trans hpl8.symm))
              clear hy HOT h9
              have n1 : ((j : Int) != (a : Int)) = true := by simp; omega
              have n2 : ((j : Int) == (a : Int)) = false := by simp; omega
              obtain ⟨W1, hW1, H1⟩ := boxed1 wr h8
              have KJ := Lib.hid (KI.out.below H1.out.2)
              go_wp2_with fail
              refine (lget_is EY.out KJ.out.lok hjl KJ.out.lq KJ.out.nm).mono ?_; rintro e w9 ⟨rfl, hb⟩
              obtain ⟨W2, hW2, H2⟩ := boxed1 w9 h8
              have KM := Lib.hid ((KJ.out.below hb).below H2.out.2)
              have l17 := ((H1.out.1.below hb).below H2.out.2).load
              have l18 := H2.out.1.load
              have c7 := KM.out.pv.slot
              dsimp only at c7
              have l7 := KM.out.pv.line
              dsimp only at l7
              clear hb lw
              go_wp2_with fail
              refine (could_is CO.out W2 h8 hpl8 h8).mono ?_; rintro e wA ⟨rfl, hb⟩
              have KO := Lib.hid (KM.out.below hb)
              have c8 := KO.out.pv.slot
              dsimp only at c8
              clear hb c7 l17 l18 l7
              go_wp2
              exact ⟨⟨j + 1, by omega, by go_num, KO⟩, by simp [intOf]; omega⟩
          · obtain rfl : j = S := by omega
            go_wp2_with fail
            refine (awake_any _).mono ?_; rintro e w9 ⟨rfl, hb⟩
            have B9 := Lib.hid (below_base KI.out.bel KI.out.bel.size hb)
            go_wp2
            go_ret
            exact ⟨rfl, B9.out⟩
      · have HX := Lib.hid r5
        subst hx
        clear r5
        go_wp2_with fail
        refine (lput_any q g S P (s.cutAt (nn : Int) a6) (a : Int) pl w5 KL5.out.lq KL5.out.nm HC1.out.ok HC1.out.p (by have := HB.out; omega) hpl8 KK.out.1 K9.out).mono ?_; rintro e w6 ⟨rfl, hN, hC⟩
        rw [HRP.out] at hN ⊢
        have N6 := Lib.hid hN
        have Q6 := Lib.hid (KL5.out.lq.chg hC (by simpa using KK.out.1))
        have W6 := Lib.hid (KL5.out.wt.chg hC (by simpa using KK.out.2.2.1))
        have P6 := Lib.hid (KL5.out.pv.chg hC (by simpa using KK.out.2.2.2.1))
        have B6 := Lib.hid (hC.own KL5.out.bel KK.out.2.1)
        clear hN hC c5 l5
        go_wp2_with fail
        refine (power_any g s2 w6 N6.out).mono ?_; rintro e w7 ⟨rfl, hN, hC⟩
        have N7 := Lib.hid hN
        have W7 := Lib.hid (W6.out.chg hC (by simpa using KK.out.2.2.1))
        have P7 := Lib.hid (P6.out.chg hC (by simpa using KK.out.2.2.2.1))
        have B7 := Lib.hid (hC.own B6.out KK.out.2.1)
        clear hN hC
        go_wp2_with fail
        refine (lnew_yes HC2.out N7.out).mono ?_; rintro e w8 ⟨q2, rfl, _, hQ, hb⟩
        have KD : Hid (Kd w q2 g gw b0 ⟨(a : Int), pl⟩ S P w8 s s2.power) := Lib.hid ⟨N7.out.below hb, hQ, HC2.out, W7.out.below hb, P7.out.below hb, below_base B7.out B7.out.size hb⟩
        clear hQ hb
        go_wp2
        go_loopw [108] (fun i wi => ∃ j : Nat, j ≤ S ∧ i = .int .i64 j ∧ Hid (Kd w q2 g gw b0 ⟨(a : Int), pl⟩ S P wi s s2.power)) (fun i _ => S - (intOf i).toNat)
        case atStart => exact ⟨0, Nat.zero_le _, rfl, KD⟩
        case round =>
          obtain ⟨j, hj, rfl, KI⟩ := hrel
          clear KD
          by_cases hjl : j < S
          · have lw := KI.out.wt.load hjl
            have h8 := KI.out.wt.2 j hjl
            have h9 : (hold s2.power S P j).length = 8 := KI.out.lok.ok.line _
            have i6 : (0 : Int) ≤ (j : Int) := by omega
            have i7 : (j : Int) < (S : Int) := by omega
            have hj40 : j < 20 := by have := HB.out.2.1; omega
            by_cases hja : j = a
            · subst hja
              have HCO := HC4.out
              have hz := HX.out
              rw [hz] at HCO
              obtain ⟨y, hy⟩ : ∃ y, hold s S P j = y := ⟨_, rfl⟩
              rw [hy] at lw h8 HCO hz
              have EY := Lib.hid hz
              have CO := Lib.hid HCO
              clear hy HCO hz h9
              obtain ⟨W1, hW1, H1⟩ := boxed1 wr h8
              have KJ := Lib.hid (KI.out.below H1.out.2)
              go_wp2_with fail
              refine (lget_is EY.out KJ.out.lok hjl KJ.out.lq KJ.out.nm).mono ?_; rintro e w9 ⟨rfl, hb⟩
              obtain ⟨W2, hW2, H2⟩ := boxed1 w9 (a := y) h8
              have KM := Lib.hid ((KJ.out.below hb).below H2.out.2)
              have l17 := ((H1.out.1.below hb).below H2.out.2).load
              have l18 := H2.out.1.load
              have c7 := KM.out.pv.slot
              dsimp only at c7
              have l7 := KM.out.pv.line
              dsimp only at l7
              clear hb lw
              go_wp2_with fail
              refine (could_is CO.out W2 h8 hpl8 h8).mono ?_; rintro e wA ⟨rfl, hb⟩
              have KO := Lib.hid (KM.out.below hb)
              have c8 := KO.out.pv.slot
              dsimp only at c8
              clear hb c7 l17 l18 l7
              go_wp2
              exact ⟨⟨j + 1, by omega, by go_num, KO⟩, by simp [intOf]; omega⟩
            · have HOT := HC3.out j hjl hja
              obtain ⟨y, hy⟩ : ∃ y, hold s S P j = y := ⟨_, rfl⟩
              rw [hy] at lw h8 HOT
              have EY := Lib.hid HOT
              have CO := Lib.hid (could_old y pl (h8.trans hpl8.symm))
              clear hy HOT h9
              have n1 : ((j : Int) != (a : Int)) = true := by simp; omega
              have n2 : ((j : Int) == (a : Int)) = false := by simp; omega
              obtain ⟨W1, hW1, H1⟩ := boxed1 wr h8
              have KJ := Lib.hid (KI.out.below H1.out.2)
              go_wp2_with fail
              refine (lget_is EY.out KJ.out.lok hjl KJ.out.lq KJ.out.nm).mono ?_; rintro e w9 ⟨rfl, hb⟩
              obtain ⟨W2, hW2, H2⟩ := boxed1 w9 h8
              have KM := Lib.hid ((KJ.out.below hb).below H2.out.2)
              have l17 := ((H1.out.1.below hb).below H2.out.2).load
              have l18 := H2.out.1.load
              have c7 := KM.out.pv.slot
              dsimp only at c7
              have l7 := KM.out.pv.line
              dsimp only at l7
              clear hb lw
              go_wp2_with fail
              refine (could_is CO.out W2 h8 hpl8 h8).mono ?_; rintro e wA ⟨rfl, hb⟩
              have KO := Lib.hid (KM.out.below hb)
              have c8 := KO.out.pv.slot
              dsimp only at c8
              clear hb c7 l17 l18 l7
              go_wp2
              exact ⟨⟨j + 1, by omega, by go_num, KO⟩, by simp [intOf]; omega⟩
          · obtain rfl : j = S := by omega
            go_wp2_with fail
            refine (awake_any _).mono ?_; rintro e w9 ⟨rfl, hb⟩
            have B9 := Lib.hid (below_base KI.out.bel KI.out.bel.size hb)
            go_wp2
            go_ret
            exact ⟨rfl, B9.out⟩
      · subst hx
        go_wp2_with fail
        refine (lput_any q g S P (s.cutAt (nn : Int) a6) (a : Int) pl w5 KL5.out.lq KL5.out.nm HC1.out.ok HC1.out.p (by have := HB.out; omega) hpl8 KK.out.1 K9.out).mono ?_; rintro e w6 ⟨rfl, hN, hC⟩
        rw [HRP.out] at hN ⊢
        have N6 := Lib.hid hN
        have Q6 := Lib.hid (KL5.out.lq.chg hC (by simpa using KK.out.1))
        have W6 := Lib.hid (KL5.out.wt.chg hC (by simpa using KK.out.2.2.1))
        have P6 := Lib.hid (KL5.out.pv.chg hC (by simpa using KK.out.2.2.2.1))
        have B6 := Lib.hid (hC.own KL5.out.bel KK.out.2.1)
        clear hN hC c5 l5
        go_wp2_with fail
        refine (power_any g s2 w6 N6.out).mono ?_; rintro e w7 ⟨rfl, hN, hC⟩
        have N7 := Lib.hid hN
        have W7 := Lib.hid (W6.out.chg hC (by simpa using KK.out.2.2.1))
        have P7 := Lib.hid (P6.out.chg hC (by simpa using KK.out.2.2.2.1))
        have B7 := Lib.hid (hC.own B6.out KK.out.2.1)
        clear hN hC
        go_wp2_with fail
        refine (lnew_yes HC2.out N7.out).mono ?_; rintro e w8 ⟨q2, rfl, _, hQ, hb⟩
        have KD : Hid (Kd w q2 g gw b0 ⟨(a : Int), pl⟩ S P w8 s s2.power) := Lib.hid ⟨N7.out.below hb, hQ, HC2.out, W7.out.below hb, P7.out.below hb, below_base B7.out B7.out.size hb⟩
        clear hQ hb
        go_wp2
        go_loopw [108] (fun i wi => ∃ j : Nat, j ≤ S ∧ i = .int .i64 j ∧ Hid (Kd w q2 g gw b0 ⟨(a : Int), pl⟩ S P wi s s2.power)) (fun i _ => S - (intOf i).toNat)
        case atStart => exact ⟨0, Nat.zero_le _, rfl, KD⟩
        case round =>
          obtain ⟨j, hj, rfl, KI⟩ := hrel
          clear KD
          by_cases hjl : j < S
          · have lw := KI.out.wt.load hjl
            have h8 := KI.out.wt.2 j hjl
            have h9 : (hold s2.power S P j).length = 8 := KI.out.lok.ok.line _
            have i6 : (0 : Int) ≤ (j : Int) := by omega
            have i7 : (j : Int) < (S : Int) := by omega
            have hj40 : j < 20 := by have := HB.out.2.1; omega
            by_cases hja : j = a
            · subst hja
              have HCO := HC4.out
              obtain ⟨y, hy⟩ : ∃ y, hold s S P j = y := ⟨_, rfl⟩
              obtain ⟨z, hz⟩ : ∃ z, hold s2.power S P j = z := ⟨_, rfl⟩
              rw [hy] at lw h8 HCO
              rw [hz] at HCO h9
              have EY := Lib.hid hz
              have CO := Lib.hid HCO
              clear hy HCO hz
              obtain ⟨W1, hW1, H1⟩ := boxed1 wr h8
              have KJ := Lib.hid (KI.out.below H1.out.2)
              go_wp2_with fail
              refine (lget_is EY.out KJ.out.lok hjl KJ.out.lq KJ.out.nm).mono ?_; rintro e w9 ⟨rfl, hb⟩
              obtain ⟨W2, hW2, H2⟩ := boxed1 w9 (a := z) h9
              have KM := Lib.hid ((KJ.out.below hb).below H2.out.2)
              have l17 := ((H1.out.1.below hb).below H2.out.2).load
              have l18 := H2.out.1.load
              have c7 := KM.out.pv.slot
              dsimp only at c7
              have l7 := KM.out.pv.line
              dsimp only at l7
              clear hb lw
              go_wp2_with fail
              refine (could_is CO.out W2 h8 hpl8 h9).mono ?_; rintro e wA ⟨rfl, hb⟩
              have KO := Lib.hid (KM.out.below hb)
              have c8 := KO.out.pv.slot
              dsimp only at c8
              clear hb c7 l17 l18 l7
              go_wp2
              exact ⟨⟨j + 1, by omega, by go_num, KO⟩, by simp [intOf]; omega⟩
            · have HOT := HC3.out j hjl hja
              obtain ⟨y, hy⟩ : ∃ y, hold s S P j = y := ⟨_, rfl⟩
              rw [hy] at lw h8 HOT
              have EY := Lib.hid HOT
              have CO := Lib.hid (could_old y pl (h8.trans hpl8.symm))
              clear hy HOT h9
              have n1 : ((j : Int) != (a : Int)) = true := by simp; omega
              have n2 : ((j : Int) == (a : Int)) = false := by simp; omega
              obtain ⟨W1, hW1, H1⟩ := boxed1 wr h8
              have KJ := Lib.hid (KI.out.below H1.out.2)
              go_wp2_with fail
              refine (lget_is EY.out KJ.out.lok hjl KJ.out.lq KJ.out.nm).mono ?_; rintro e w9 ⟨rfl, hb⟩
              obtain ⟨W2, hW2, H2⟩ := boxed1 w9 h8
              have KM := Lib.hid ((KJ.out.below hb).below H2.out.2)
              have l17 := ((H1.out.1.below hb).below H2.out.2).load
              have l18 := H2.out.1.load
              have c7 := KM.out.pv.slot
              dsimp only at c7
              have l7 := KM.out.pv.line
              dsimp only at l7
              clear hb lw
              go_wp2_with fail
              refine (could_is CO.out W2 h8 hpl8 h8).mono ?_; rintro e wA ⟨rfl, hb⟩
              have KO := Lib.hid (KM.out.below hb)
              have c8 := KO.out.pv.slot
              dsimp only at c8
              clear hb c7 l17 l18 l7
              go_wp2
              exact ⟨⟨j + 1, by omega, by go_num, KO⟩, by simp [intOf]; omega⟩
          · obtain rfl : j = S := by omega
            go_wp2_with fail
            refine (awake_any _).mono ?_; rintro e w9 ⟨rfl, hb⟩
            have B9 := Lib.hid (below_base KI.out.bel KI.out.bel.size hb)
            go_wp2
            go_ret
            exact ⟨rfl, B9.out⟩

theorem walk (a0 a1 : Int) (lim : List Int) (lv : Value) (l : List Pt) (v : Value) (c0 : Pt) (a5 a6 : Int) (w : World) (_ : (Lit.int .i64 a0).wf = true) (_ : (Lit.int .i64 a1).wf = true) (hl : IntsIn .i64 w lv lim) (h : RP w v l) (hc0 : c0.Wf) (_ : (Lit.int .i64 a5).wf = true) (_ : (Lit.int .i64 a6).wf = true) :
    Calls Try.prog 4 #[.int .i64 a0, .int .i64 a1, lv, v, .agg (pc c0), .int .i64 a5, .int .i64 a6] w fun e w' => e = .returned (.bool true) ∧ Below w.heap.size w w' := by
  by_cases hb : 60 < l.length ∨ 200 < lim.length
  · exact small a0 a1 a5 a6 c0 lim l lv v w hl h hc0 hb
  · exact main a0 a1 a5 a6 c0 lim l lv v w hl h hc0 (by omega) (by omega)

set_option maxRecDepth 100000 in
theorem lifted (os : Os) (started : os.Started) (H : Type) (enc : TypeId × Value → H) :
    ReturnsInHanded {} Try.checked os 4 .any (Rows.linesCutSpec.pre6 enc Try.prog Try.f4 Rows.linesCutRow.domain false) (Rows.linesCutSpec.post enc Try.prog Try.f4 false true false false) := by
  refine returnsInHanded_of_change (C := Try.checked) own started (by kernel_rfl) Try.func4
    (ChangeSpec.witness6 (enc := enc) (C := Try.checked) false ⟨#[], #[.int .i64 0, .int .i64 0, .slice none 0 0, .slice none 0 0, .agg #[.int .i64 0, .int .u64 0, .int .u64 0, .int .u64 0, .int .u64 0, .int .u64 0, .int .u64 0, .int .u64 0, .int .u64 0], .int .i64 0, .int .i64 0], []⟩ 8 (by kernel_rfl) (by kernel_rfl) (by kernel_rfl) (by kernel_rfl)) ?_
  intro W base args ds gs before hval0 hW hcnd _
  have hval : ∀ (j : Nat) t v, Try.f4.params[j]? = some t → args[j]? = some v → Value.okWide Try.prog W .any base t v := hval0
  have hW' := hW
  have hlt := hW.lt
  obtain ⟨p, q, hA0, hV, hpq, hfz, hnd⟩ := hW
  have hA : DataW.TrodAll enc Try.prog W 0 (fun _ => true) true Try.f4.params.toList args.toList ds p := hA0
  rw [Try.params4] at hA hval
  obtain ⟨v0, vs0, d0, ds0, p0, q0, hargs, rfl, hp, h0, r0⟩ := trodAll_cons hA
  obtain ⟨v1, vs1, d1, ds1, p1, q1, rfl, rfl, rfl, h1, r1⟩ := trodAll_cons r0
  obtain ⟨v2, vs2, d2, ds2, p2, q2, rfl, rfl, rfl, h2, r2⟩ := trodAll_cons r1
  obtain ⟨v3, vs3, d3, ds3, p3, q3, rfl, rfl, rfl, h3, r3⟩ := trodAll_cons r2
  obtain ⟨v4, vs4, d4, ds4, p4, q4, rfl, rfl, rfl, h4, r4⟩ := trodAll_cons r3
  obtain ⟨v5, vs5, d5, ds5, p5, q5, rfl, rfl, rfl, h5, r5⟩ := trodAll_cons r4
  obtain ⟨v6, vs6, d6, ds6, p6, q6, rfl, rfl, rfl, h6, r6⟩ := trodAll_cons r5
  obtain ⟨rfl, rfl, rfl⟩ := trodAll_nil r6
  obtain rfl : args = #[v0, v1, v2, v3, v4, v5, v6] := by cases args; simp_all
  obtain ⟨rfl, rfl⟩ := trodVars_none hV
  have hlt' : ∀ x ∈ before, x.block < W.heap.size := fun x hx => hlt x hx
  obtain ⟨a0, rfl, rfl, rfl, w0⟩ := open_int Try.underlying3 (hval 0 3 v0 rfl rfl) h0
  obtain ⟨a1, rfl, rfl, rfl, w1⟩ := open_int Try.underlying3 (hval 1 3 v1 rfl rfl) h1
  obtain ⟨l2, w2⟩ := ints_in Try.underlying22 Try.underlying3 (by kernel_rfl) (hval 2 22 v2 rfl rfl) (fun x hx => hlt' x (by rw [hpq, hp]; simp [hx])) h2
  obtain ⟨l3, w3⟩ := puts_in (hval 3 23 v3 rfl rfl) h3
  obtain ⟨c4, rfl, w4⟩ := put_in (hval 4 35 v4 rfl rfl) h4
  obtain ⟨a5, rfl, rfl, rfl, w5⟩ := open_int Try.underlying3 (hval 5 3 v5 rfl rfl) h5
  obtain ⟨a6, rfl, rfl, rfl, w6⟩ := open_int Try.underlying3 (hval 6 3 v6 rfl rfl) h6
  refine (walk a0 a1 l2 v2 l3 v3 c4 a5 a6 W w0 w1 w2 w3 w4 w5 w6).mono fun e W' ⟨he, hb⟩ => ?_
  subst he
  exact ⟨_, rfl, law_post rfl (by kernel_rfl) hW' (by rw [Try.params4]; intro t ht; simp only [List.mem_cons, List.not_mem_nil, or_false] at ht; (repeat' (first | (rcases ht with rfl | ht) | subst ht)) <;> exact ⟨by kernel_rfl, of_decide_eq_true (by kernel_rfl)⟩) rfl hb⟩

theorem over : Rows.linesCutRow.holds Try.pinned (OpenSpec.ofChange Rows.linesCutSpec) :=
  OpenClaim.holds_of_wide 4 Try.f4 rfl rfl rfl rfl rfl rfl rfl ⟨rfl, rfl, rfl, rfl, rfl⟩ rfl rfl rfl rfl rfl (by kernel_rfl) Try.func4 (by kernel_rfl)
    (of_decide_eq_true (by kernel_rfl)) (by unfold Func.isWrapper; first | (rw [if_pos (by decide +kernel)]; kernel_rfl) | (rw [if_neg (by decide +kernel)]; exact ⟨rfl, rfl⟩))
    (fun os started H enc _ => lifted os started H enc)

theorem proved : Rows.LinesCutSaid := over
end Go.Proofs.Ytlpmpnhkghbdmaa.linesCut
